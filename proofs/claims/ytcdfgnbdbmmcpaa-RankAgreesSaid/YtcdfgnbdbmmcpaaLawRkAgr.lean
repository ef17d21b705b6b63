/- RankAgrees over contracts. -/
import Derived.Test.YtcdfgnbdbmmcpaaRkCon
import Derived.Test.YtcdfgnbdbmmcpaaSameDump
import Derived.Test.YtcdfgnbdbmmcpaaSlotsAid
import Derived.Deep.RegionHeld3
import Derived.Deep.QuietTactic
import Derived.Deep.DeepCutAuto
set_option linter.unusedVariables false
set_option linter.unusedSimpArgs false
namespace Go.Proofs.Ytcdfgnbdbmmcpaa
open Go.RowKit
theorem mod_quiet {n m : Int} {p : Nat} (h1 : -9223372036854775808 ≤ n) (h2 : n ≤ 9223372036854775807) (h3 : 1 ≤ m) (h4 : m ≤ 9223372036854775807) (hp : n % m = (p : Int)) (w : World) :
    Calls Try.prog 19 #[.int .i64 n, .int .i64 m] w (Quiet w (.int .i64 (p : Int))) := by
  refine (mod_any n m w h1 h2 h3 h4).mono ?_
  rintro e w' ⟨h5, rfl⟩
  exact ⟨by rw [h5, hp], 0, rfl⟩
def AgRel (I : AImpl) (B : Nat) (w0 : World) (p : Value) (A : Ar) (rs : List Row) (bs : List (Nat × Obj)) (key i lo hi k : Value) (wr : World) : Prop :=
  ∃ (k0 i0 lo0 hi0 : Int) (j : Nat) (rd : Int), key = .int .i64 k0 ∧ i = .int .i64 i0 ∧ lo = .int .i64 lo0 ∧ hi = .int .i64 hi0 ∧ k = .int .i64 (j : Int) ∧ j ≤ 2 ∧ i64R k0 ∧ i64R i0 ∧ i64R lo0 ∧ i64R hi0 ∧ 0 ≤ rd ∧ rd ≤ 3000 * (j : Int) ∧ Scn I B w0 wr p A rd rs bs
set_option maxHeartbeats 8000000 in
set_option maxRecDepth 100000 in
theorem agrees10_walk (I : AImpl) (K : RkImpl I) {a : Option Addr} {n c : Nat} {raw : List En} {tilt : Int} {key i lo hi : Int} {w : World} (hE : EnsAt w a raw) (hn : raw.length = n) (hnm : n ≤ 9223372036854775807) (ht0 : 0 ≤ tilt) (ht1 : tilt < 18446744073709551616) (hkey : i64R key) (hi64 : i64R i) (hlo : i64R lo) (hhi : i64R hi) :
    Calls Try.prog 3 #[.slice a n c, .int .u64 tilt, .int .i64 key, .int .i64 i, .int .i64 lo, .int .i64 hi] w (Calm w (.bool true)) := by
  have HK := Lib.hid K
  have HARG : Hid (i64R key ∧ i64R i ∧ i64R lo ∧ i64R hi) := ⟨hkey, hi64, hlo, hhi⟩
  clear K hkey hi64 hlo hhi
  have HWF : Hid (∀ y ∈ listE raw 120, i64R y.key ∧ i64R y.val) := fun y hy => hE.wf y (listE_mem hy)
  have HL := Lib.hid (list_any (c := c) (k := 120) hE hn hnm (by decide))
  have HT : Hid (0 ≤ tilt ∧ tilt < 18446744073709551616) := ⟨ht0, ht1⟩
  have HUP := Lib.hid (listE_up raw 120)
  have HLEN := Lib.hid (listE_len raw 120)
  clear hE hn hnm ht0 ht1
  go_enter Try.func3, Try.ntmps3
  go_wp2_with fail
  refine HL.out.mono ?_
  rintro e w1 ⟨a1, c1, rfl, hr1, hb1⟩
  have HR1 := Lib.hid hr1
  have HB1 := Lib.hid hb1
  clear hr1 hb1 HL
  generalize listE raw 120 = l at HUP HLEN HR1 HWF ⊢
  obtain ⟨L, hL⟩ : ∃ L, l.length = L := ⟨_, rfl⟩
  rw [hL] at HLEN HR1 ⊢
  have HLL := Lib.hid hL
  have hLi : (L : Int) ≤ 120 := by have := HLEN.out; omega
  have HE1 := Lib.hid (ens_row hL HR1.out HWF.out)
  have HC1 := Lib.hid (row_caps HR1.out)
  clear hL
  go_wp2_with fail
  refine (grow_any I (sp := 1) (m := L + 1) HE1.out HLL.out HC1.out.1 HC1.out.2 rfl (by omega) (by have := HLEN.out; omega) HT.out.1 HT.out.2).mono ?_
  rintro e w2 ⟨p, A, ri, t, F, rfl, hg⟩
  obtain ⟨pa, rfl⟩ := I.ptr hg.is
  have HTR := Lib.hid (hg.planted.tree HUP.out)
  have HPL := Lib.hid hg.planted
  have HS2 := Lib.hid (Scn.init hg HB1.out HR1.out)
  clear hg HR1 HE1 HC1 HT
  go_wp2_with fail
  refine (awake10_any I HK.out w2).mono ?_
  rintro e w3 ⟨rfl, hb3⟩
  have HS3 := Lib.hid (HS2.out.calm hb3)
  clear hb3 HS2
  have hmj := mostJ_le (n := L) (by have := HLEN.out; omega)
  have HXH : Hid (xhI (L : Int) = (xh L : Int)) := xhI_nat (by have := HLEN.out; omega)
  obtain ⟨M, hM⟩ : ∃ M, mostJ L = M := ⟨_, rfl⟩
  rw [hM] at hmj
  have HMOST : Hid (M ≤ 492 ∧ 0 ≤ M) := hmj
  have hM2 : M = 6 * ((xh L : Int) + 2) := by rw [← hM]; rfl
  obtain ⟨X0, hX0⟩ : ∃ X : Int, (xh L : Int) = X := ⟨_, rfl⟩
  rw [hX0] at hM2 HXH
  have v1 : IntKind.i64.wrap (X0 + 2) = X0 + 2 := by rw [IntKind.wrap_i64]; omega
  have v2 : IntKind.i64.wrap (6 * (X0 + 2)) = M := by rw [IntKind.wrap_i64]; omega
  have v3 : IntKind.i64.wrap (2 * M) = 2 * M := by rw [IntKind.wrap_i64]; omega
  have HML : Hid (mostJ l.length = M) := by show _ = _; rw [HLL.out, hM]
  clear hmj hM hM2 hX0
  go_wp2_with fail
  refine HS3.out.dump.mono ?_
  rintro e w4 ⟨da, dc, db, dd, rfl, hs4, hb4⟩
  have HS4 := Lib.hid hs4
  clear hs4 hb4 HS3
  go_wp2_with fail
  refine (height_kit (L : Int) w4 (by omega) (by omega)).mono ?_
  rintro e w5 ⟨rfl, hb5⟩
  rw [HXH.out]
  have hs5 := (HS4.out.calm hb5).box #[.slice da A.σ.cap dc, .slice db A.σ.free.length dd] 33
  clear hb5 HS4
  go_upto_region 6 with fail
  generalize w5.alloc (Obj.cells #[.slice da A.σ.cap dc, .slice db A.σ.free.length dd] 33) = w6 at hs5 ⊢
  generalize w5.heap.size = q at hs5 ⊢
  generalize hrs : [(⟨26, 1, .slice db A.σ.free.length dd, A.σ.free.length, u32s A.σ.free⟩ : Row), ⟨71, 11, .slice da A.σ.cap dc, A.σ.cap, slotsV A⟩, ⟨41, 2, .slice a1 L c1, L, ensV l⟩] = rs at hs5
  generalize hbs : [(q, Obj.cells #[.slice da A.σ.cap dc, .slice db A.σ.free.length dd] 33 (0, 0))] = bs at hs5
  have HRS := Lib.hid hrs
  have HBS := Lib.hid hbs
  have HLJ : Hid (∀ {wx : World} {rd : Int} {bs' : List (Nat × Obj)}, Scn I w.heap.size w wx (.pointer (some pa)) A rd rs bs' → EnsAt wx a1 l) := fun {wx rd bs'} h => ens_row HLL.out (h.rows ⟨41, 2, .slice a1 L c1, L, ensV l⟩ (by rw [← HRS.out]; simp)) HWF.out
  have HR0 : Hid (AgRel I w.heap.size w (.pointer (some pa)) A rs bs (.int .i64 key) (.int .i64 i) (.int .i64 lo) (.int .i64 hi) (.int .i64 0) w6) := ⟨key, i, lo, hi, 0, 0, rfl, rfl, rfl, rfl, rfl, by omega, HARG.out.1, HARG.out.2.1, HARG.out.2.2.1, HARG.out.2.2.2, by decide, by decide, hs5⟩
  clear hrs hbs hs5 HARG v1 v2
  go_wp2_with fail
  go_loopw [2, 3, 4, 5, 19] (fun key i lo hi k wr => AgRel I w.heap.size w (.pointer (some pa)) A rs bs key i lo hi k wr) (fun _ _ _ _ k _ => 2 - (intOf k).toNat)
  case atStart => exact HR0.out
  case round =>
    clear HR0
    obtain ⟨key, i, lo, hi, j, rd, rfl, rfl, rfl, rfl, rfl, hj, g1, g2, g3, g4, hrd0, hrd1, hS⟩ := hrel
    have HS := Lib.hid hS
    have HG : Hid (i64R key ∧ i64R i ∧ i64R lo ∧ i64R hi) := ⟨g1, g2, g3, g4⟩
    have HRD : Hid (0 ≤ rd ∧ rd ≤ 3000 * (j : Int) ∧ j ≤ 2) := ⟨hrd0, hrd1, hj⟩
    clear hS hj hrd0 hrd1 g1 g2 g3 g4
    by_cases hlt : j < 2
    · have hji : (j : Int) < 2 := by omega
      have HLT := Lib.hid hlt
      clear hlt
      go_wp2_with fail
      refine HS.out.reads.mono ?_
      rintro e w7 ⟨rfl, hs7⟩
      have HS7 := Lib.hid hs7
      clear hs7 HS
      go_wp2_with fail
      refine (HS7.out.call fun F hI => HK.out.rank key _ hI HTR.out HRD.out.1 (by have := HRD.out; omega) HG.out.1).mono ?_
      rintro e w8 ⟨rfl, rd8, hs8, h80, h81⟩
      rw [HML.out] at h81
      have HS8 := Lib.hid hs8
      have HRD8 : Hid (rd ≤ rd8 ∧ rd8 ≤ rd + M) := ⟨h80, h81⟩
      clear hs8 h80 h81 HS7
      obtain ⟨R, hR⟩ : ∃ R, rankE l key = R := ⟨_, rfl⟩
      rw [hR]
      have HRK := Lib.hid hR
      have hrr : ((R : Int) != (R : Int)) = false := by simp
      clear hR
      go_wp2_with fail
      refine (rank_any key (HLJ.out HS8.out) HLL.out (by have := HLEN.out; omega)).mono ?_
      rintro e w9 ⟨rfl, rfl⟩
      rw [HRK.out]
      go_wp2_with fail
      refine (within_any HS8.out.mr HRD.out.1 HRD8.out.1 (by have := HRD8.out; omega) (by have := HRD8.out; have := HRD.out; have := HMOST.out; omega) (by have := HMOST.out; omega)).mono ?_
      rintro e w10 ⟨rfl, hb10⟩
      have HS10 := Lib.hid (HS8.out.calm hb10)
      have HRE8 : Hid (0 ≤ rd8 ∧ rd8 ≤ 3000 * (j : Int) + 500) := by have h1 := HRD.out; have h2 := HRD8.out; have h3 := HMOST.out; exact ⟨by omega, by omega⟩
      clear hb10 HS8 hrr HRK HRD8
      go_wp2_with fail
      refine HS10.out.reads.mono ?_
      rintro e w11 ⟨rfl, hs11⟩
      have HS11 := Lib.hid hs11
      clear hs11 HS10
      go_wp2_with fail
      refine (HS11.out.call fun F hI => HK.out.select i _ hI HTR.out HRE8.out.1 (by have := HRE8.out; have := HLT.out; omega) HG.out.2.1).mono ?_
      rintro e w12 ⟨rfl, rd12, hs12, h80, h81⟩
      rw [HML.out] at h81
      have HRD12 : Hid (rd8 ≤ rd12 ∧ rd12 ≤ rd8 + M) := ⟨h80, h81⟩
      obtain ⟨X, hX⟩ : ∃ X, (selE l i).elim (0 : Int) (·.key) = X := ⟨_, rfl⟩
      obtain ⟨Y, hY⟩ : ∃ Y, (selE l i).elim (0 : Int) (·.val) = Y := ⟨_, rfl⟩
      obtain ⟨Z, hZ⟩ : ∃ Z, (selE l i).isSome = Z := ⟨_, rfl⟩
      have HSE : Hid (enA (selE l i) = #[.int .i64 X, .int .i64 Y] ∧ (selE l i).isSome = Z) := by unfold enA; rw [hX, hY]; exact ⟨rfl, hZ⟩
      unfold enR
      rw [HSE.out.1, HSE.out.2]
      have hs13 := hs12.box #[.int .i64 X, .int .i64 Y] 41
      clear hs12 h80 h81 HS11 hX hY hZ
      go_upto_region 15 with fail
      generalize w12.alloc (Obj.cells #[.int .i64 X, .int .i64 Y] 41) = w13 at hs13 ⊢
      generalize w12.heap.size = gx at hs13 ⊢
      have HS13 := Lib.hid hs13
      clear hs13
      go_wp2_with fail
      refine (select_any i (HLJ.out HS13.out) HLL.out (by have := HLEN.out; omega) HG.out.2.1).mono ?_
      rintro e w14 ⟨rfl, hb14⟩
      rw [HSE.out.1, HSE.out.2]
      have hs15 := (HS13.out.calm hb14).box #[.int .i64 X, .int .i64 Y] 41
      clear hb14 HS13
      go_upto_region 16 with fail
      generalize w14.alloc (Obj.cells #[.int .i64 X, .int .i64 Y] 41) = w15 at hs15 ⊢
      generalize w14.heap.size = gy at hs15 ⊢
      obtain ⟨x0, x1, -, -⟩ := hs15.two (g := gx) (x := X) (y := Y) (t := 41) (by simp)
      obtain ⟨y0, y1, -, -⟩ := hs15.two (g := gy) (x := X) (y := Y) (t := 41) (by simp)
      have HS15 : Hid (Scn I w.heap.size w w15 (.pointer (some pa)) A rd12 rs bs) := hs15.less (List.Sublist.refl _) ((List.sublist_cons_self _ _).trans (List.sublist_cons_self _ _))
      have hxx : (X == X) = true := by simp
      have hyy : (Y == Y) = true := by simp
      have hzz : (Z != Z) = false := by simp
      clear hs15 HSE
      go_wp2_with fail
      refine (within_any HS15.out.mr HRE8.out.1 HRD12.out.1 (by have := HRD12.out; omega) (by have := HRD12.out; have := HRE8.out; have := HMOST.out; have := HLT.out; omega) (by have := HMOST.out; omega)).mono ?_
      rintro e w16 ⟨rfl, hb16⟩
      have HS16 := Lib.hid (HS15.out.calm hb16)
      have HRE12 : Hid (0 ≤ rd12 ∧ rd12 ≤ 3000 * (j : Int) + 1000) := by have h1 := HRE8.out; have h2 := HRD12.out; have h3 := HMOST.out; exact ⟨by omega, by omega⟩
      clear hb16 HS15 hxx hyy hzz x0 x1 y0 y1 HRE8 HRD12
      go_wp2_with fail
      refine HS16.out.reads.mono ?_
      rintro e w17 ⟨rfl, hs17⟩
      have HS17 := Lib.hid hs17
      clear hs17 HS16
      go_wp2_with fail
      refine (HS17.out.call fun F hI => HK.out.count lo hi _ hI HTR.out HRE12.out.1 (by have := HRE12.out; have := HLT.out; omega) HG.out.2.2.1 HG.out.2.2.2).mono ?_
      rintro e w18 ⟨rfl, rd18, hs18, h80, h81⟩
      rw [HML.out] at h81
      have HS18 := Lib.hid hs18
      have HRD18 : Hid (rd12 ≤ rd18 ∧ rd18 ≤ rd12 + 2 * M) := ⟨h80, h81⟩
      clear hs18 h80 h81 HS17
      obtain ⟨C, hC⟩ : ∃ C, cntE l lo hi = C := ⟨_, rfl⟩
      have HCN : Hid ((betE l lo hi).length = C) := hC
      rw [hC]
      have hcc : ((C : Int) != (C : Int)) = false := by simp
      clear hC
      go_wp2_with fail
      refine (between_any lo hi (HLJ.out HS18.out) HLL.out (by have := HLEN.out; omega)).mono ?_
      rintro e w19 ⟨ba, bc, rfl, -, hb19⟩
      rw [HCN.out]
      have HS19 := Lib.hid (HS18.out.calm hb19)
      clear hb19 HS18
      go_wp2_with fail
      refine (within_any HS19.out.mr HRE12.out.1 HRD18.out.1 (by have := HRD18.out; omega) (by have := HRD18.out; have := HRE12.out; have := HMOST.out; have := HLT.out; omega) (by have := HMOST.out; omega)).mono ?_
      rintro e w20 ⟨rfl, hb20⟩
      have HS20 := Lib.hid (HS19.out.calm hb20)
      have HRE18 : Hid (0 ≤ rd18 ∧ rd18 ≤ 3000 * ((j + 1 : Nat) : Int)) := by have h1 := HRE12.out; have h2 := HRD18.out; have h3 := HMOST.out; exact ⟨by omega, by omega⟩
      have m1 := Int.emod_nonneg i (b := (L : Int) + 2) (by omega)
      have m2 := Int.emod_lt_of_pos i (b := (L : Int) + 2) (by omega)
      have u1 : IntKind.i64.wrap ((L : Int) + 2) = (L : Int) + 2 := by rw [IntKind.wrap_i64]; omega
      have u2 : IntKind.i64.wrap (i % ((L : Int) + 2) - 1) = i % ((L : Int) + 2) - 1 := by rw [IntKind.wrap_i64]; omega
      have HI1 : Hid (i64R (i % ((L : Int) + 2) - 1)) := ⟨by omega, by omega⟩
      clear hb20 HS19 hcc HCN HRD18 HRE12
      go_wp2_with fail
      refine (mod_any i ((L : Int) + 2) _ HG.out.2.1.1 HG.out.2.1.2 (by omega) (by omega)).mono ?_
      rintro e w21 ⟨rfl, rfl⟩
      generalize i % ((L : Int) + 2) = mi at m1 m2 u2 HI1
      by_cases hl0 : 0 < L
      · have hgt : decide ((L : Int) > 0) = true := decide_eq_true (by omega)
        have hgt2 : decide ((0 : Int) < (L : Int)) = true := decide_eq_true (by omega)
        have hgt3 : (0 : Int) < (L : Int) := by omega
        have t1 := Int.tmod_lt_of_pos lo (b := 1000) (by decide)
        have t2 := Int.lt_tmod_of_pos lo (b := 1000) (by decide)
        have t3 := Int.tmod_lt_of_pos hi (b := 1000) (by decide)
        have t4 := Int.lt_tmod_of_pos hi (b := 1000) (by decide)
        obtain ⟨T1, hT1⟩ : ∃ T1, lo.tmod 1000 = T1 := ⟨_, rfl⟩
        obtain ⟨T2, hT2⟩ : ∃ T2, hi.tmod 1000 = T2 := ⟨_, rfl⟩
        rw [hT1] at t1 t2
        rw [hT2] at t3 t4
        have p1 := Int.emod_nonneg (T1) (b := (L : Int)) (by omega)
        have p2 := Int.emod_lt_of_pos (T1) (b := (L : Int)) (by omega)
        have p3 := Int.emod_nonneg (T2) (b := (L : Int)) (by omega)
        have p4 := Int.emod_lt_of_pos (T2) (b := (L : Int)) (by omega)
        obtain ⟨P, hP⟩ := Int.eq_ofNat_of_zero_le p1
        obtain ⟨Q, hQ⟩ := Int.eq_ofNat_of_zero_le p3
        rw [hP] at p2
        rw [hQ] at p4
        obtain ⟨eP, heP⟩ : ∃ e, l[P]? = some e := ⟨_, List.getElem?_eq_getElem (by have := HLL.out; omega)⟩
        obtain ⟨eQ, heQ⟩ : ∃ e, l[Q]? = some e := ⟨_, List.getElem?_eq_getElem (by have := HLL.out; omega)⟩
        have HWP := Lib.hid (HWF.out eP (List.mem_of_getElem? heP)).1
        have HWQ := Lib.hid (HWF.out eQ (List.mem_of_getElem? heQ)).1
        have HM1 : Hid (∀ wx, Calls Try.prog 19 #[.int .i64 (T1), .int .i64 (L : Int)] wx (Quiet wx (.int .i64 (P : Int)))) := fun wx => mod_quiet (by omega) (by omega) (by omega) (by omega) hP wx
        have HM2 : Hid (∀ wx, Calls Try.prog 19 #[.int .i64 (T2), .int .i64 (L : Int)] wx (Quiet wx (.int .i64 (Q : Int)))) := fun wx => mod_quiet (by omega) (by omega) (by omega) (by omega) hQ wx
        obtain ⟨b, off, hab, hb, c0, -⟩ := (HLJ.out HS20.out).at heP
        obtain ⟨b', off', hab', hb', d0, -⟩ := (HLJ.out HS20.out).at heQ
        rw [hab] at hab'
        obtain ⟨rfl, rfl⟩ : b = b' ∧ off = off' := by simpa using hab'
        have hP0 : (0 : Int) ≤ (P : Int) := by omega
        have hQ0 : (0 : Int) ≤ (Q : Int) := by omega
        have hPL : (P : Int) < (L : Int) := p2
        have hQL : (Q : Int) < (L : Int) := p4
        have HAB := Lib.hid hab
        subst hab
        clear hab' heP heQ hb hb' p1 p3 t1 t2 t3 t4 hP hQ p2 p4 hl0
        go_upto_region 23 with fail
        go_quiet (first
          | (go_at_call_of 19 (Value.int .i64 T1); exact Calls.quiet_of (HM1.out _))
          | (go_at_call_of 19 (Value.int .i64 T2); exact Calls.quiet_of (HM2.out _)))
        rename Nat => dd
        have HS21 : Hid (Scn I w.heap.size w (w20.drewN dd) (.pointer (some pa)) A rd18 rs bs) := HS20.out.calm (below_drewN (Below.refl _ _) dd)
        generalize w20.drewN dd = w22 at HS21 ⊢
        clear c0 d0 HS20
        go_wp2_with fail
        exact ⟨⟨eP.key, mi - 1, eP.key, eQ.key, j + 1, rd18, rfl, rfl, rfl, rfl, by go_num, by have := HLT.out; omega, HWP.out, HI1.out, HWP.out, HWQ.out, HRE18.out.1, HRE18.out.2, HS21.out⟩, by have := HLT.out; simp [intOf]; omega⟩
      · have hgt : decide ((L : Int) > 0) = false := decide_eq_false (by omega)
        have hgt2 : decide ((0 : Int) < (L : Int)) = false := decide_eq_false (by omega)
        have hgt3 : ¬ (0 : Int) < (L : Int) := by omega
        clear hl0
        go_wp2_with fail
        exact ⟨⟨key, mi - 1, lo, hi, j + 1, rd18, rfl, rfl, rfl, rfl, by go_num, by have := HLT.out; omega, HG.out.1, HI1.out, HG.out.2.2.1, HG.out.2.2.2, HRE18.out.1, HRE18.out.2, HS20.out⟩, by have := HLT.out; simp [intOf]; omega⟩
    · obtain rfl : j = 2 := by have h1 := HRD.out; omega
      have HRD0 : Hid (0 ≤ rd ∧ rd ≤ 6000) := by have h1 := HRD.out; exact ⟨by omega, by omega⟩
      have HFC : Hid (A.σ.cap ≤ 65536 ∧ A.σ.free.length ≤ 65536) := by have h1 := HPL.out.inv.ok.len; have h2 := HPL.out.inv.ok.cap2; exact ⟨h2, by omega⟩
      clear hlt HRD HG
      obtain ⟨X, hX⟩ : ∃ X, (midE l).elim (0 : Int) (·.key) = X := ⟨_, rfl⟩
      obtain ⟨Y, hY⟩ : ∃ Y, (midE l).elim (0 : Int) (·.val) = Y := ⟨_, rfl⟩
      obtain ⟨Z, hZ⟩ : ∃ Z, (midE l).isSome = Z := ⟨_, rfl⟩
      obtain ⟨H, hH⟩ : ∃ H : Nat, (L + 1) / 2 = H := ⟨_, rfl⟩
      have HSE : Hid (enA (midE l) = #[.int .i64 X, .int .i64 Y] ∧ (midE l).isSome = Z) := by unfold enA; rw [hX, hY]; exact ⟨rfl, hZ⟩
      have HSF : Hid (enA (selE l ((H : Int) - 1)) = #[.int .i64 X, .int .i64 Y] ∧ (selE l ((H : Int) - 1)).isSome = Z) := by
        have h : selE l ((H : Int) - 1) = midE l := by unfold midE; rw [HLL.out, hH]
        rw [h]; exact HSE.out
      have z1 : IntKind.i64.wrap ((L : Int) + 1) = (L : Int) + 1 := by rw [IntKind.wrap_i64]; omega
      have z2 : IntKind.i64.wrap (((L : Int) + 1).tdiv 2) = (H : Int) := by rw [IntKind.wrap_i64, Int.tdiv_eq_ediv_of_nonneg (by omega)]; omega
      have z3 : IntKind.i64.wrap ((H : Int) - 1) = (H : Int) - 1 := by rw [IntKind.wrap_i64]; omega
      have HHR : Hid (i64R ((H : Int) - 1)) := ⟨by omega, by omega⟩
      clear hX hY hZ hH
      go_wp2_with fail
      refine HS.out.reads.mono ?_
      rintro e w7 ⟨rfl, hs7⟩
      have HS7 := Lib.hid hs7
      clear hs7 HS
      go_wp2_with fail
      refine (HS7.out.call fun F hI => HK.out.median _ hI HTR.out HRD0.out.1 (by have := HRD0.out; omega)).mono ?_
      rintro e w8 ⟨rfl, rd8, hs8, h80, h81⟩
      rw [HML.out] at h81
      have HRD8 : Hid (rd ≤ rd8 ∧ rd8 ≤ rd + M) := ⟨h80, h81⟩
      unfold enR
      rw [HSE.out.1, HSE.out.2]
      have hs9 := hs8.box #[.int .i64 X, .int .i64 Y] 41
      clear hs8 h80 h81 HS7
      go_upto_region 27 with fail
      generalize w8.alloc (Obj.cells #[.int .i64 X, .int .i64 Y] 41) = w9 at hs9 ⊢
      generalize w8.heap.size = gx at hs9 ⊢
      have HS9 := Lib.hid hs9
      clear hs9
      go_wp2_with fail
      refine (select_any ((H : Int) - 1) (HLJ.out HS9.out) HLL.out (by have := HLEN.out; omega) HHR.out).mono ?_
      rintro e w10 ⟨rfl, hb10⟩
      rw [HSF.out.1, HSF.out.2]
      have hs11 := (HS9.out.calm hb10).box #[.int .i64 X, .int .i64 Y] 41
      clear hb10 HS9
      go_upto_region 28 with fail
      generalize w10.alloc (Obj.cells #[.int .i64 X, .int .i64 Y] 41) = w11 at hs11 ⊢
      generalize w10.heap.size = gy at hs11 ⊢
      have HCEL : Hid (∀ {wx : World} {rd : Int} {rs' : List Row}, Scn I w.heap.size w wx (.pointer (some pa)) A rd rs' ((gy, .cells #[.int .i64 X, .int .i64 Y] 41 (0, 0)) :: (gx, .cells #[.int .i64 X, .int .i64 Y] 41 (0, 0)) :: bs) →
          wx.cell? ⟨gx, 0, none⟩ = some (.int .i64 X) ∧ wx.cell? ⟨gx, 1, none⟩ = some (.int .i64 Y) ∧ wx.cell? ⟨gy, 0, none⟩ = some (.int .i64 X) ∧ wx.cell? ⟨gy, 1, none⟩ = some (.int .i64 Y) ∧ wx.cell? ⟨q, 0, none⟩ = some (.slice da A.σ.cap dc) ∧ wx.cell? ⟨q, 1, none⟩ = some (.slice db A.σ.free.length dd)) := fun {wx rd rs'} h => by
        obtain ⟨x0, x1, -, -⟩ := h.two (g := gx) (x := X) (y := Y) (t := 41) (by simp)
        obtain ⟨y0, y1, -, -⟩ := h.two (g := gy) (x := X) (y := Y) (t := 41) (by simp)
        have hq := (h.boxes (q, Obj.cells #[.slice da A.σ.cap dc, .slice db A.σ.free.length dd] 33 (0, 0)) (by rw [← HBS.out]; simp)).2
        obtain ⟨q0, q1⟩ := two_cells hq
        exact ⟨x0, x1, y0, y1, q0, q1⟩
      have hSd := hs11.calm (Below.refl _ _).drew
      obtain ⟨x0, x1, y0, y1, q0, q1⟩ := HCEL.out hSd
      have hxx2 : (X == X) = true := by simp
      have hyy2 : (Y == Y) = true := by simp
      have hzz2 : (Z == Z) = true := by simp
      have HWI : Hid (0 ≤ rd ∧ rd ≤ rd8 ∧ rd8 ≤ rd + M ∧ rd8 ≤ 4398046511104 ∧ M ≤ 1000000) := by have h1 := HRD8.out; have h3 := HRD0.out; have h4 := HMOST.out; exact ⟨by omega, by omega, by omega, by omega, by omega⟩
      clear hs11 z1 z2 z3
      go_region_held3 (fun w' => w'.cell? ⟨gx, 0, none⟩ = some (.int .i64 X) ∧ w'.cell? ⟨gx, 1, none⟩ = some (.int .i64 Y) ∧ w'.cell? ⟨gy, 0, none⟩ = some (.int .i64 X) ∧ w'.cell? ⟨gy, 1, none⟩ = some (.int .i64 Y) ∧ w'.cell? ⟨q, 0, none⟩ = some (.slice da A.σ.cap dc) ∧ w'.cell? ⟨q, 1, none⟩ = some (.slice db A.σ.free.length dd)) (go_keep) (first
        | (go_at_call 14; refine (within_any hSd.mr HWI.out.1 HWI.out.2.1 HWI.out.2.2.1 HWI.out.2.2.2.1 HWI.out.2.2.2.2).mono ?_; rintro e wB ⟨rfl, hbB⟩; have hSB := hSd.calm hbB; obtain ⟨x0, x1, y0, y1, q0, q1⟩ := HCEL.out hSB)
        | (go_at_call 9; refine hSB.dump.mono ?_; rintro e wC ⟨ea, ec, eb, ed, rfl, hsC, hbC⟩; have hSC := hSB.calm hbC; obtain ⟨x0, x1, y0, y1, q0, q1⟩ := HCEL.out hSC)
        | (go_at_call 21; refine (same_dump A.σ.free rfl (slots_at HPL.out.inv (hsC.rows ⟨71, 11, .slice ea A.σ.cap ec, A.σ.cap, slotsV A⟩ (by simp))) (slots_at HPL.out.inv (hSC.rows ⟨71, 11, .slice da A.σ.cap dc, A.σ.cap, slotsV A⟩ (by rw [← HRS.out]; simp))) (hsC.rows ⟨26, 1, .slice eb A.σ.free.length ed, A.σ.free.length, u32s A.σ.free⟩ (by simp)) (hSC.rows ⟨26, 1, .slice db A.σ.free.length dd, A.σ.free.length, u32s A.σ.free⟩ (by rw [← HRS.out]; simp)) HFC.out.1 HFC.out.2).mono ?_; rintro e wD ⟨rfl, hbD⟩; have hSD := hSC.calm hbD; obtain ⟨x0, x1, y0, y1, q0, q1⟩ := HCEL.out hSD))
      all_goals (go_wp2_with fail; go_ret; exact ⟨rfl, hSD.below⟩)
end Go.Proofs.Ytcdfgnbdbmmcpaa
