/- Of the proof of VUpdateDeletesP: RefRsv, UpCon, LawUpDel. -/
import Derived.Test.YtckkmmdibgoajaaGreatV1
import Derived.Test.YtckkmmdibgoajaaGreatV2
import Derived.Test.YtckkmmdibgoajaaGreatV3
import Derived.Test.YtckkmmdibgoajaaGreatV4
import Derived.Test.YtckkmmdibgoajaaGreatV5
import Derived.Test.YtckkmmdibgoajaaGreatV6
import Derived.Test.YtckkmmdibgoajaaGreatV10
import Derived.Test.YtckkmmdibgoajaaGreatV11
import Derived.Test.YtckkmmdibgoajaaGreatV12
import Derived.Test.YtckkmmdibgoajaaGreatV13
import Derived.Test.YtckkmmdibgoajaaGreatV16
import Derived.Deep.DeepCutAuto
import Derived.Deep.RegionHeld3
import Derived.Deep.QuietTactic
set_option linter.unusedVariables false
set_option linter.unusedSimpArgs false
namespace Go.Proofs.YtckkmmdibgoajaaGreat
open Go.RowKit
theorem refDelete_any (n : Int) (w : World) (hn : in64 n) : Calls Tryz.prog 26 #[.int .i64 n] w (Calm w (.int .i64 (delI n))) := by
  have HC := Lib.hid (refNeed_any n 0 0 0 0 4 w ⟨hn, in0, in0⟩ ⟨by decide, by decide⟩ (fun _ _ _ => ⟨by decide, by decide⟩) ⟨by decide, by decide⟩)
  clear hn
  go_enter Tryz.func26, Tryz.ntmps26
  go_wp2_with fail
  refine HC.out.mono ?_
  rintro e w1 ⟨rfl, hb1⟩
  have HB := Lib.hid hb1
  clear hb1
  go_wp2_with fail
  go_ret
  exact ⟨rfl, HB.out⟩
end Go.Proofs.YtckkmmdibgoajaaGreat
set_option linter.unusedVariables false
set_option linter.unusedSimpArgs false
namespace Go.Proofs.YtckkmmdibgoajaaGreat
open Go.RowKit
theorem del_max {n : Int} (h0 : 0 ≤ n) (h1 : n ≤ 151) : delI n ≤ 64 ∧ 0 ≤ delI n := by
  have h3 := xhI_max (n := n + 0 + 0 + 0) (by omega) (by omega)
  unfold delI needI
  have hv : vld n ∧ vld 0 ∧ vld 0 := by unfold vld; omega
  rw [if_pos hv]
  omega
theorem out_up {l : List En} (h : Up l) (lo hi : Int) : Up (outE l lo hi) := List.Pairwise.filter _ h
theorem out_len (l : List En) (lo hi : Int) : (outE l lo hi).length ≤ l.length := List.length_filter_le _ _
end Go.Proofs.YtckkmmdibgoajaaGreat
set_option linter.unusedVariables false
set_option linter.unusedSimpArgs false
namespace Go.Proofs.YtckkmmdibgoajaaGreat
open Go.RowKit
set_option maxHeartbeats 1000000 in
set_option maxRecDepth 100000 in
theorem refDelete9_any {w : World} {a : Option Addr} {n c : Nat} {l : List En} (k : Int) (h : EnsAt w a l) (hn : l.length = n) (hl : n ≤ 1000000) :
    Calls Tryz.prog 28 #[.slice a n c, .int .i64 k] w (MadeEns w (outE l k k)) := by
  have HC := Lib.hid (outside_any (c := c) k k h hn hl)
  clear h hn hl
  go_enter Tryz.func28, Tryz.ntmps28
  go_wp2_with fail
  refine HC.out.mono ?_
  rintro e w1 ⟨xa, xc, rfl, hr, hb⟩
  have HR : Hid (MadeEns w (outE l k k) (.returned (.slice xa (outE l k k).length xc)) w1) := ⟨xa, xc, rfl, hr, hb⟩
  generalize (outE l k k).length = LN at HR ⊢
  clear hr hb
  go_wp2_with fail
  go_ret
  exact HR.out
set_option maxHeartbeats 16000000 in
set_option maxRecDepth 100000 in
theorem udel_walk (I : AImpl) (hchk : CheckSpec) (K : UpdImpl I) {a : Option Addr} {n c : Nat} {raw : List En} {tilt key at_ free : Int} {w : World} (hE : EnsAt w a raw) (hn : raw.length = n) (hnm : n ≤ 9223372036854775807) (ht0 : 0 ≤ tilt) (ht1 : tilt < 18446744073709551616) (hkey : i64R key) (hat : i64R at_) (hf0 : 0 ≤ free) (hf1 : free < 65536) :
    Calls Tryz.prog 4 #[.slice a n c, .int .u64 tilt, .int .i64 key, .int .i64 at_, .int .u16 free] w (Calm w (.bool true)) := by
  have HKEY := Lib.hid hkey
  clear hkey
  have HK := Lib.hid K
  have HCHK := Lib.hid hchk
  have HAT := Lib.hid hat
  have HF : Hid (0 ≤ free ∧ free < 65536) := ⟨hf0, hf1⟩
  have HWF : Hid (∀ y ∈ listE raw 150, i64R y.key ∧ i64R y.val) := fun y hy => hE.wf y (listE_mem hy)
  have HL := Lib.hid (list_any (c := c) (k := 150) hE hn hnm (by decide))
  have HT : Hid (0 ≤ tilt ∧ tilt < 18446744073709551616) := ⟨ht0, ht1⟩
  have HUP := Lib.hid (listE_up raw 150)
  have HLEN := Lib.hid (listE_len raw 150)
  clear K hchk hE hn hnm ht0 ht1 hat hf0 hf1
  go_enter Tryz.func4, Tryz.ntmps4
  go_wp2_with fail
  refine HL.out.mono ?_
  rintro en w1 ⟨a1, c1, rfl, hr1, hb1⟩
  have HR1 := Lib.hid hr1
  have HB1 := Lib.hid hb1
  clear hr1 hb1 HL
  generalize listE raw 150 = l at HUP HLEN HR1 HWF ⊢
  obtain ⟨L, hL⟩ : ∃ L, l.length = L := ⟨_, rfl⟩
  rw [hL] at HLEN HR1 ⊢
  have HLL := Lib.hid hL
  have hLi : (L : Int) ≤ 150 := by have := HLEN.out; omega
  have HE1 := Lib.hid (ens_row hL HR1.out HWF.out)
  have HC1 := Lib.hid (row_caps HR1.out)
  clear hL
  have hnd := del_max (n := (L : Int)) (by omega) (by omega)
  obtain ⟨NE, hNE⟩ : ∃ NE, delI (L : Int) = NE := ⟨_, rfl⟩
  rw [hNE] at hnd
  have HNE : Hid (delI (L : Int) = NE ∧ 0 ≤ NE ∧ NE ≤ 64) := ⟨hNE, hnd.2, hnd.1⟩
  clear hnd hNE
  go_wp2_with fail
  refine (refDelete_any (L : Int) w1 ⟨by omega, by omega⟩).mono ?_
  rintro en w2 ⟨rfl, hb2⟩
  rw [HNE.out.1]
  have HB2 := Lib.hid hb2
  clear hb2
  go_wp2_with fail
  refine (spare14_any free NE w2 HF.out.1 HF.out.2 HNE.out.2.1 (by have := HNE.out; omega)).mono ?_
  rintro en w2' ⟨sp, rfl, hsp, rfl⟩
  have hspi : (sp : Int) ≤ 72 := by have := HNE.out; omega
  have hsp0 : (0 : Int) ≤ (sp : Int) := by omega
  have HSP1 : Hid ((1 : Int) + (sp : Int) = ((sp + 1 : Nat) : Int)) := by show _ = _; omega
  clear hsp
  go_wp2_with fail
  rw [HSP1.out]
  refine (grow_any I (sp := sp + 1) (m := L + (sp + 1)) (HE1.out.below HB2.out) HLL.out HC1.out.1 HC1.out.2 rfl (by omega) (by have := HLEN.out; omega) HT.out.1 HT.out.2).mono ?_
  rintro en w3 ⟨p, A, ri, t, F, rfl, hg⟩
  obtain ⟨pa, rfl⟩ := I.ptr hg.is
  have HTR := Lib.hid (hg.planted.tree HUP.out)
  have HPL := Lib.hid hg.planted
  have HS3 := Lib.hid (Scn.init hg (HB1.out.trans (HB2.out.mono HB1.out.size)) (row_below HR1.out HB2.out))
  have hfr : A.σ.free.length = sp + 1 := by
    have h := hg.planted.free
    rw [HLL.out] at h
    have h2 : (Ar.init (L + (sp + 1))).σ.free.length = L + (sp + 1) := by show (List.range' 1 (L + (sp + 1))).length = _; simp
    omega
  have HFR : Hid (A.σ.free.length = sp + 1 ∧ A.σ.cap = L + (sp + 1) ∧ sp ≤ 72) := ⟨hfr, hg.planted.kept.cap, by omega⟩
  have HPI : Hid (pls (fun _ => 0) ri = hof [ri]) := by show _ = _; have := hof_pls [] ri; rw [hof_nil] at this; exact this
  have HHM : Hid (∀ j, pls (fun _ => 0) ri j ≤ 1048000) := fun j => by rw [pls_at]; split <;> omega
  have HRI : Hid (ri < 4294967296) := HTR.out.idx
  clear hg HR1 HE1 HC1 HT hfr HB1 HB2 HSP1 hspi hsp0
  go_wp2_with fail
  refine (awake14_any I HK.out w3).mono ?_
  rintro en w4 ⟨rfl, hb4⟩
  have HS4 := Lib.hid (HS3.out.calm hb4)
  clear hb4 HS3
  go_upto_region 6 with fail
  go_cut [54] from 47 to 53 (fun sc wx => ∃ bb : Bool, sc = .bool bb ∧ (bb = true → 0 < L) ∧ w4 = wx)
  case first =>
    by_cases hL0 : L = 0
    · have hl0 : (L : Int) = 0 := by omega
      have hd : decide ((L : Int) > 0) = false := decide_eq_false (by omega)
      have hd2 : decide ((0 : Int) < (L : Int)) = false := decide_eq_false (by omega)
      have hd3 : ¬ 0 < L := by omega
      clear hL0
      go_wp2_with fail
      go_meet
      exact ⟨false, rfl, (fun h => by cases h), rfl⟩
    · have hd : decide ((L : Int) > 0) = true := decide_eq_true (by omega)
      have hd2 : decide ((0 : Int) < (L : Int)) = true := decide_eq_true (by omega)
      have hd3 : 0 < L := by omega
      obtain ⟨bb, hbb⟩ : ∃ bb : Bool, (at_.tmod 4 != 0) = bb := ⟨_, rfl⟩
      clear hL0
      go_wp2_with fail
      go_meet
      exact ⟨bb, by rw [← hbb], fun _ => hd3, rfl⟩
  case' rest =>
    obtain ⟨bb, rfl, hbb, rfl⟩ := hcut
    have HBBL := Lib.hid hbb
    clear hbb
    go_upto_if 54 with fail
    go_cut [2] from 55 to 62 (fun s2 wx => ∃ k : Int, s2 = .int .i64 k ∧ i64R k ∧ w4 = wx)
    case first =>
      cases bb with
      | false =>
        go_wp2_with fail
        go_meet
        exact ⟨key, rfl, HKEY.out, rfl⟩
      | true =>
        have hL0 := HBBL.out rfl
        have hli : (0 : Int) < (L : Int) := by omega
        have hx6 := Int.emod_nonneg at_ (b := (L : Int)) (by omega)
        have hx7 := Int.emod_lt_of_pos at_ (b := (L : Int)) (by omega)
        obtain ⟨j, hj⟩ := Int.eq_ofNat_of_zero_le hx6
        have hjL : j < L := by omega
        have HMX : Hid (∀ wx, Calls Tryz.prog 13 #[.int .i64 at_, .int .i64 (L : Int)] wx (fun e w' => e = .returned (.int .i64 (j : Int)) ∧ wx = w')) := fun wx => (mod_any at_ (L : Int) wx HAT.out.1 HAT.out.2 (by omega) (by omega)).mono fun e w' ⟨h1, h2⟩ => ⟨by rw [h1, hj], h2⟩
        obtain ⟨x, he⟩ : ∃ e, l[j]? = some e := ⟨_, List.getElem?_eq_getElem (by have := HLL.out; omega)⟩
        have HEW := Lib.hid (HWF.out x (List.mem_of_getElem? he))
        obtain ⟨b, off, rfl, hb, c0, c1'⟩ := (ens_row (w := w4) (B := w.heap.size) (c := c1) HLL.out (HS4.out.rows _ (List.mem_singleton.2 rfl)) HWF.out).cell j x he
        have hji : (j : Int) < (L : Int) := by omega
        have hj0 : (0 : Int) ≤ (j : Int) := by omega
        clear he hb hj hjL hx6 hx7 hL0 c1'
        go_wp2_with (go_at_call 13; refine (HMX.out _).mono ?_; rintro e wy ⟨rfl, rfl⟩)
        go_meet
        exact ⟨x.key, rfl, HEW.out.1, rfl⟩
    case' rest =>
      obtain ⟨k, rfl, hk, rfl⟩ := hcut
      have HKV := Lib.hid hk
      have HS6 := HS4
      clear hk HS4 HBBL HKEY
      have HENS : Hid (∀ {wx : World} {C : Ar} {rdx : Int} {rs' : List Row} {bs' : List (Nat × Obj)}, Scn I w.heap.size w wx (.pointer (some pa)) C rdx (rs' ++ [⟨25, 2, .slice a1 L c1, L, ensV l⟩]) bs' → EnsAt wx a1 l) := fun {wx C rdx rs' bs'} h => ens_row (B := w.heap.size) (c := c1) HLL.out (h.rows _ (List.mem_append_right _ (List.mem_singleton.2 rfl))) HWF.out
      go_wp2_with fail
      refine (get_any k (HENS.out (rs' := []) HS6.out) HLL.out (by have := HLEN.out; omega)).mono ?_
      rintro en w8 ⟨rfl, hw8⟩
      obtain rfl : w4 = w8 := hw8.symm
      obtain ⟨V, hV⟩ : ∃ V, (getE l k).elim (0 : Int) (·.val) = V := ⟨_, rfl⟩
      obtain ⟨Z, hZ⟩ : ∃ Z, (getE l k).isSome = Z := ⟨_, rfl⟩
      rw [hV, hZ]
      have HVZ : Hid ((getE l k).elim (0 : Int) (·.val) = V ∧ (getE l k).isSome = Z) := ⟨hV, hZ⟩
      clear hV hZ
      go_wp2_with fail
      refine HS6.out.dump.mono ?_
      rintro en w9 ⟨da, dc, db, dd, rfl, hs9, -⟩
      obtain ⟨N, hN⟩ : ∃ N, A.σ.cap = N := ⟨_, rfl⟩
      obtain ⟨M, hM⟩ : ∃ M, A.σ.free.length = M := ⟨_, rfl⟩
      rw [hN, hM] at hs9 ⊢
      have HNM : Hid (A.σ.cap = N ∧ A.σ.free.length = M ∧ (N : Int) ≤ 65536 ∧ (M : Int) ≤ 73 ∧ M = sp + 1) := ⟨hN, hM, by have := HFR.out; have := HLEN.out; omega, by have := HFR.out; omega, by have := HFR.out; omega⟩
      have HS9 := Lib.hid hs9
      clear hs9 hN hM HS6
      go_wp2_with fail
      refine HS9.out.reads.mono ?_
      rintro en w10 ⟨rfl, hs10⟩
      have hs11 := hs10.box #[.slice da N dc, .slice db M dd] 41
      clear hs10 HS9
      go_upto_region 10 with fail
      generalize w10.alloc (.cells #[.slice da N dc, .slice db M dd] 41) = w11 at hs11 ⊢
      generalize w10.heap.size = q at hs11 ⊢
      obtain ⟨rs, hrs⟩ : ∃ rs : List Row, rs = [⟨30, 1, .slice db M dd, M, u32s A.σ.free⟩, ⟨90, 11, .slice da N dc, N, slotsV A⟩, ⟨25, 2, .slice a1 L c1, L, ensV l⟩] := ⟨_, rfl⟩
      rw [← hrs] at hs11
      have HR0 : Hid ((⟨30, 1, .slice db M dd, M, u32s A.σ.free⟩ : Row) ∈ rs) := by show _ ∈ _; rw [hrs]; simp
      have HR1 : Hid ((⟨90, 11, .slice da N dc, N, slotsV A⟩ : Row) ∈ rs) := by show _ ∈ _; rw [hrs]; simp
      have HR2 : Hid ((⟨25, 2, .slice a1 L c1, L, ensV l⟩ : Row) ∈ rs) := by show _ ∈ _; rw [hrs]; simp
      have HS11 := Lib.hid hs11
      clear hs11 hrs HENS
      have HCEL : Hid (∀ {wx : World} {C : Ar} {rdx : Int} {rs' : List Row} {bs' : List (Nat × Obj)}, Scn I w.heap.size w wx (.pointer (some pa)) C rdx rs' (bs' ++ [(q, .cells #[.slice da N dc, .slice db M dd] 41 (0, 0))]) → wx.cell? ⟨q, 0, none⟩ = some (.slice da N dc) ∧ wx.cell? ⟨q, 1, none⟩ = some (.slice db M dd)) := fun {wx C rdx rs' bs'} h => two_cells (h.boxes (q, .cells #[.slice da N dc, .slice db M dd] 41 (0, 0)) (by simp)).2
      go_wp2_with fail
      refine (HS11.out.mut fun F hI => HK.out.delete k w11 hI HPL.out.inv HHM.out HTR.out HWF.out (by decide) (by decide) HKV.out).mono ?_
      rintro en w12 ⟨B, rd, ⟨h40, h41, hq⟩, hs12⟩
      have HS12 := Lib.hid hs12
      obtain ⟨H, hH⟩ : ∃ H, (xh (L + 1) : Int) = H := ⟨_, rfl⟩
      have hH2 := (xh_spec (n := L + 1) (by have := HLEN.out; omega)).2.1
      have hHb : 0 ≤ H ∧ H ≤ 80 := ⟨by omega, by omega⟩
      have hbd : updBd l.length = 60 * (H + 2) := by unfold updBd; rw [HLL.out, hH]
      have HRD : Hid (0 ≤ rd ∧ rd ≤ 0 + 60 * (H + 2) ∧ rd ≤ 10000 ∧ 60 * (H + 2) ≤ 10000) := ⟨h40, by omega, by omega, by omega⟩
      have HHI : Hid (xhI ((L : Int) + 1) = H) := by show _ = _; rw [show (L : Int) + 1 = ((L + 1 : Nat) : Int) by omega, xhI_nat (by have := HLEN.out; omega)]; exact hH
      have HHT : Hid (∀ wx, Calls Tryz.prog 19 #[.int .i64 ((L : Int) + 1)] wx (Calm wx (.int .i64 H))) := fun wx => by rw [← HHI.out]; exact height_kit _ wx (by omega) (by have := HLEN.out; omega)
      obtain ⟨hH0, hH80⟩ := hHb
      clear hs12 HS11 h40 h41 hH hH2 hbd
      rcases hq with ⟨hin, rfl, rfl⟩ | ⟨hin, hfull, rfl, rfl⟩ | ⟨hin, hroom, j, u, rfl, hgot, huse, hle⟩
      · have hgk := HVZ.out
        rw [hin] at hgk
        obtain ⟨rfl, rfl⟩ : 0 = V ∧ false = Z := hgk
        clear hin
        go_wp2_with fail
        refine (HHT.out w12).mono ?_
        rintro en w13 ⟨rfl, hb13⟩
        have HS13 := Lib.hid (HS12.out.calm hb13)
        clear hb13 HS12
        go_wp2_with fail
        refine (within_any (most := 60 * (H + 2)) HS13.out.mr (Int.le_refl _) HRD.out.1 HRD.out.2.1 (by have := HRD.out; omega) (by have := HRD.out; omega)).mono ?_
        rintro en w14 ⟨rfl, hb14⟩
        have HS14 := Lib.hid (HS13.out.calm hb14)
        clear hb14 HS13
        go_upto_region 21 with fail
        obtain ⟨q0, q1⟩ := HCEL.out (bs' := []) HS14.out
        have hSd := HS14.out.calm (Below.refl _ _).drew
        go_region_held3 (fun w' => w'.cell? ⟨q, 0, none⟩ = some (.slice da N dc) ∧ w'.cell? ⟨q, 1, none⟩ = some (.slice db M dd)) (go_keep) (first
          | (go_at_call 15; refine hSd.dump.mono ?_; rintro en wC ⟨ea, ec, eb, ed, rfl, hsC, -⟩; rw [HNM.out.1, HNM.out.2.1] at hsC ⊢; obtain ⟨q0, q1⟩ := HCEL.out (bs' := []) hsC)
          | (go_at_call 22; refine (same_dump B.σ.free HNM.out.2.1 (hsC.slots_of (c := ec) HPL.out.inv HNM.out.1 (by simp)) (hsC.slots_of (c := dc) HPL.out.inv HNM.out.1 (by simp [HR1.out])) (hsC.rows ⟨30, 1, .slice eb M ed, M, u32s B.σ.free⟩ (by simp)) (hsC.rows ⟨30, 1, .slice db M dd, M, u32s B.σ.free⟩ (by simp [HR0.out])) (by have := HNM.out; omega) (by have := HNM.out; omega)).mono ?_; rintro en wD ⟨rfl, hbD⟩; have hsD := hsC.calm hbD; obtain ⟨q0, q1⟩ := HCEL.out (bs' := []) hsD))
        all_goals (go_wp2_with fail; go_ret; exact ⟨rfl, hsD.below⟩)
      · have HROOM : Hid ((M : Int) < NE) := by show _ < _; rw [← HNE.out.1, ← HNM.out.2.1, ← HLL.out]; exact hfull
        obtain rfl : Z = true := by
          rw [← HVZ.out.2]
          cases hg : getE l k with
          | none => exact absurd hg hin
          | some e' => rfl
        clear hin hfull
        go_wp2_with fail
        refine (HHT.out w12).mono ?_
        rintro en w13 ⟨rfl, hb13⟩
        have HS13 := Lib.hid (HS12.out.calm hb13)
        clear hb13 HS12
        go_wp2_with fail
        refine (within_any (most := 60 * (H + 2)) HS13.out.mr (Int.le_refl _) HRD.out.1 HRD.out.2.1 (by have := HRD.out; omega) (by have := HRD.out; omega)).mono ?_
        rintro en w14 ⟨rfl, hb14⟩
        have HS14 := Lib.hid (HS13.out.calm hb14)
        clear hb14 HS13
        obtain ⟨q0, q1⟩ := HCEL.out (bs' := []) HS14.out
        have hms : decide ((M : Int) < NE) = true := decide_eq_true (by have := HROOM.out; omega)
        go_upto_region 21 with fail
        have hSd := HS14.out.calm (Below.refl _ _).drew
        go_region_held3 (fun w' => w'.cell? ⟨q, 0, none⟩ = some (.slice da N dc) ∧ w'.cell? ⟨q, 1, none⟩ = some (.slice db M dd)) (go_keep) (first
          | (go_at_call 15; refine hSd.dump.mono ?_; rintro en wC ⟨ea, ec, eb, ed, rfl, hsC, -⟩; rw [HNM.out.1, HNM.out.2.1] at hsC ⊢; obtain ⟨q0, q1⟩ := HCEL.out (bs' := []) hsC)
          | (go_at_call 22; refine (same_dump B.σ.free HNM.out.2.1 (hsC.slots_of (c := ec) HPL.out.inv HNM.out.1 (by simp)) (hsC.slots_of (c := dc) HPL.out.inv HNM.out.1 (by simp [HR1.out])) (hsC.rows ⟨30, 1, .slice eb M ed, M, u32s B.σ.free⟩ (by simp)) (hsC.rows ⟨30, 1, .slice db M dd, M, u32s B.σ.free⟩ (by simp [HR0.out])) (by have := HNM.out; omega) (by have := HNM.out; omega)).mono ?_; rintro en wD ⟨rfl, hbD⟩; have hsD := hsC.calm hbD; obtain ⟨q0, q1⟩ := HCEL.out (bs' := []) hsD))
        all_goals (go_wp2_with fail; go_ret; exact ⟨rfl, hsD.below⟩)
      · have HROOM : Hid (NE ≤ (M : Int)) := by show _ ≤ _; rw [← HNE.out.1, ← HNM.out.2.1, ← HLL.out]; exact hroom
        rw [HVZ.out.1]
        obtain ⟨FB, hFB⟩ : ∃ f, B.σ.free.length = f := ⟨_, rfl⟩
        have HUSE : Hid (B.σ.free.length = FB ∧ (M : Int) ≤ (FB : Int) + NE ∧ (FB : Int) ≤ (M : Int)) := ⟨hFB, by rw [← HNE.out.1, ← HNM.out.2.1, ← HLL.out, ← hFB]; exact huse, by rw [← hFB]; have := HNM.out.2.1; omega⟩
        have HTJ := Lib.hid (hgot.tree (out_up HUP.out k k))
        obtain rfl : Z = true := by
          rw [← HVZ.out.2]
          cases hg : getE l k with
          | none => exact absurd hg hin
          | some e' => rfl
        have HINV : Hid (B.Inv [] (hof [ri, j])) := by
          have := hgot.inv
          rw [HPI.out, hof_pls] at this
          exact this
        have HBG : Hid (B.Agg ∧ B.σ.cap = N ∧ KeptS N A.sl B.sl) := ⟨hgot.agg, hgot.kept.cap.trans HNM.out.1, kept_keptS2 hgot.kept hgot.gen⟩
        have HON : Hid (∀ z ∈ [ri, j], z = 0 ∨ B.σ.on z = true) := fun z hz => by
          simp at hz
          rcases hz with rfl | rfl
          · exact HTR.out.sub.idx.imp_right (hgot.kept.on _)
          · exact hgot.sub.idx
        have HJI : Hid (j < 4294967296) := hgot.idx
        clear hin hroom hgot huse hle hFB
        go_wp2_with fail
        refine (HHT.out w12).mono ?_
        rintro en w13 ⟨rfl, hb13⟩
        have HS13 := Lib.hid (HS12.out.calm hb13)
        clear hb13 HS12
        go_wp2_with fail
        refine (within_any (most := 60 * (H + 2)) HS13.out.mr (Int.le_refl _) HRD.out.1 HRD.out.2.1 (by have := HRD.out; omega) (by have := HRD.out; omega)).mono ?_
        rintro en w14 ⟨rfl, hb14⟩
        have HS14 := Lib.hid (HS13.out.calm hb14)
        clear hb14 HS13
        obtain ⟨q0, q1⟩ := HCEL.out (bs' := []) HS14.out
        have hms : decide ((M : Int) < NE) = false := decide_eq_false (by have := HROOM.out; omega)
        go_wp2_with fail
        clear q0 q1 hms
        refine HS14.out.dump.mono ?_
        rintro en w15 ⟨na, nc, nb, nd, rfl, hs15, -⟩
        rw [HBG.out.2.1, HUSE.out.1] at hs15 ⊢
        have hs16 := hs15.box #[.slice na N nc, .slice nb FB nd] 41
        clear hs15 HS14
        go_upto_region 23 with fail
        generalize w15.alloc (.cells #[.slice na N nc, .slice nb FB nd] 41) = w16 at hs16 ⊢
        generalize w15.heap.size = qn at hs16 ⊢
        have HS16 := Lib.hid hs16
        clear hs16
        have HCN : Hid (∀ {wx : World} {C : Ar} {rdx : Int} {rs' : List Row} {bs' : List (Nat × Obj)}, Scn I w.heap.size w wx (.pointer (some pa)) C rdx rs' (bs' ++ [(qn, .cells #[.slice na N nc, .slice nb FB nd] 41 (0, 0)), (q, .cells #[.slice da N dc, .slice db M dd] 41 (0, 0))]) → wx.cell? ⟨q, 0, none⟩ = some (.slice da N dc) ∧ wx.cell? ⟨q, 1, none⟩ = some (.slice db M dd) ∧ wx.cell? ⟨qn, 0, none⟩ = some (.slice na N nc) ∧ wx.cell? ⟨qn, 1, none⟩ = some (.slice nb FB nd)) := fun {wx C rdx rs' bs'} h => by
          obtain ⟨q0, q1⟩ := two_cells (h.boxes (q, .cells #[.slice da N dc, .slice db M dd] 41 (0, 0)) (by simp)).2
          obtain ⟨n0, n1⟩ := two_cells (h.boxes (qn, .cells #[.slice na N nc, .slice nb FB nd] 41 (0, 0)) (by simp)).2
          exact ⟨q0, q1, n0, n1⟩
        obtain ⟨q0, q1, n0, n1⟩ := HCN.out (bs' := []) HS16.out
        have hSd := HS16.out.calm (Below.refl _ _).drew
        have hvv : (V == V) = true := by simp
        have hu1 : IntKind.i64.wrap ((M : Int) - (FB : Int)) = (M : Int) - (FB : Int) := by rw [IntKind.wrap_i64]; have := HNM.out; have := HUSE.out; omega
        have hu2 : decide ((M : Int) - (FB : Int) ≤ NE) = true := decide_eq_true (by have := HUSE.out; omega)
        have HLI : Hid (l.length ≤ 1000000) := by show _ ≤ _; rw [HLL.out]; have := HLEN.out; omega
        obtain ⟨LN, hLN⟩ : ∃ LN, (outE l k k).length = LN := ⟨_, rfl⟩
        have HL2 : Hid ((outE l k k).length = LN ∧ LN ≤ 65536) := ⟨hLN, by rw [← hLN]; have := out_len l k k; have := HLI.out; have := HLEN.out; have := HLL.out; omega⟩
        have HINS : Hid (∀ wx, EnsAt wx a1 l → Calls Tryz.prog 28 #[.slice a1 L c1, .int .i64 k] wx (fun e w' => ∃ a c, e = .returned (.slice a LN c) ∧ w'.ownsRow wx.heap.size 25 2 (.slice a LN c) LN (ensV (outE l k k)) ∧ Below wx.heap.size wx w')) := fun wx h => by
          have h1 := refDelete9_any (c := c1) k h HLL.out (by have := HLEN.out; omega)
          refine h1.mono ?_
          rintro e w' ⟨a', c', he, hr, hb⟩
          rw [HL2.out.1] at he hr
          exact ⟨a', c', he, hr, hb⟩
        have HIW : Hid (∀ y ∈ outE l k k, i64R y.key ∧ i64R y.val) := out_wf HWF.out k k
        clear hLN
        go_region_held3 (fun w' => w'.cell? ⟨q, 0, none⟩ = some (.slice da N dc) ∧ w'.cell? ⟨q, 1, none⟩ = some (.slice db M dd) ∧ w'.cell? ⟨qn, 0, none⟩ = some (.slice na N nc) ∧ w'.cell? ⟨qn, 1, none⟩ = some (.slice nb FB nd)) (go_keep) (first
          | (go_at_call 28; refine (HINS.out _ (ens_row (B := w.heap.size) (c := c1) HLL.out (hSd.rows _ (List.mem_cons_of_mem _ (List.mem_cons_of_mem _ HR2.out))) HWF.out)).mono ?_; rintro en wA ⟨xa, xc, rfl, hrA, hbA⟩; have hsA := hSd.row hbA hrA; obtain ⟨q0, q1, n0, n1⟩ := HCN.out (bs' := []) hsA)
          | (go_at_call 23; refine (refTree_any HINV.out HBG.out.2.1 (hsA.slots_of (c := nc) HINV.out HBG.out.2.1 (by simp)) HTJ.out (ens_row (B := w.heap.size) (c := xc) HL2.out.1 (hsA.rows _ (List.mem_cons_self ..)) HIW.out) HL2.out.1 HL2.out.2).mono ?_; rintro en wB ⟨rfl, hbB⟩; have hsB := hsA.calm hbB; obtain ⟨q0, q1, n0, n1⟩ := HCN.out (bs' := []) hsB)
          | (go_at_call 25; refine (kept_any (hsB.slots_of (c := dc) HPL.out.inv HNM.out.1 (by simp [HR1.out])) (hsB.slots_of (c := nc) HINV.out HBG.out.2.1 (by simp)) HBG.out.2.2 (by have := HNM.out; omega)).mono ?_; rintro en wD ⟨rfl, hbD⟩; have hsD := hsB.calm hbD; obtain ⟨q0, q1, n0, n1⟩ := HCN.out (bs' := []) hsD)
          | (go_at_call 21; refine ((hsD.box _ _).sound HCHK.out HINV.out HBG.out.1 (u2_at _ _ ri j HRI.out HJI.out) (L := 2) rfl (by decide) HON.out).mono ?_; rintro en wE ⟨rfl, hbE⟩; have hsE := (hsD.box _ _).calm hbE; obtain ⟨q0, q1, n0, n1⟩ := HCN.out (bs' := [_]) hsE))
        all_goals (go_wp2_with fail; go_ret; exact ⟨rfl, hsE.below⟩)
end Go.Proofs.YtckkmmdibgoajaaGreat
