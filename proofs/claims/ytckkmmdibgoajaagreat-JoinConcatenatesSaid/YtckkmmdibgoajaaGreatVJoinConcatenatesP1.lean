/- Of the proof of VJoinConcatenatesP: JnDuo, LawJnCat. -/
import Derived.Test.YtckkmmdibgoajaaGreatV1
import Derived.Test.YtckkmmdibgoajaaGreatV2
import Derived.Test.YtckkmmdibgoajaaGreatV3
import Derived.Test.YtckkmmdibgoajaaGreatV4
import Derived.Test.YtckkmmdibgoajaaGreatV5
import Derived.Test.YtckkmmdibgoajaaGreatV6
import Derived.Test.YtckkmmdibgoajaaGreatV11
import Derived.Test.YtckkmmdibgoajaaGreatV12
import Derived.Test.YtckkmmdibgoajaaGreatV13
import Derived.Test.YtckkmmdibgoajaaGreatV16
import Derived.Deep.QuietTactic
import Derived.Deep.RegionHeld3
import Derived.Deep.DeepCutAuto
set_option linter.unusedVariables false
set_option linter.unusedSimpArgs false
namespace Go.Proofs.YtckkmmdibgoajaaGreat
open Go.RowKit
end Go.Proofs.YtckkmmdibgoajaaGreat
set_option linter.unusedVariables false
set_option linter.unusedSimpArgs false
namespace Go.Proofs.YtckkmmdibgoajaaGreat
open Go.RowKit
end Go.Proofs.YtckkmmdibgoajaaGreat
set_option linter.unusedVariables false
set_option linter.unusedSimpArgs false
namespace Go.Proofs.YtckkmmdibgoajaaGreat
open Go.RowKit
theorem hof_swap (x y : Nat) : hof [x, y] = hof [y, x] := by
  funext i
  unfold hof
  split
  · rfl
  · simp only [List.count_cons, List.count_nil]
    omega
theorem Duo2.swap {A : Ar} {a1 : Option Addr} {l : List En} {X Y : Nat} {tX tY : Tr} {LX LY : List En} {aX aY : Option Addr} {PX PY : Nat} (h : Duo2 A a1 l X Y tX tY LX LY aX aY PX PY) : Duo2 A a1 l Y X tY tX LY LX aY aX PY PX :=
  ⟨h.ty, h.tx, by rw [hof_swap]; exact h.inv, h.agg, h.wy, h.wx, h.ly, h.lx, by have := h.sum; omega, fun w hw => (h.en w hw).symm⟩
theorem xh_mono {m n : Nat} (h : m ≤ n) (hn : n ≤ 2147483647) : xh m ≤ xh n := xh_le hn (by have := (xh_spec (n := m) (by omega)).1; omega)
theorem up_join {l m : List En} {x y : En} (hl : Up l) (hm : Up m) (hx : l.getLast? = some x) (hy : m.head? = some y) : Up (l ++ m) ↔ x.key < y.key := by
  constructor
  · intro h
    exact (List.pairwise_append.1 h).2.2 x (List.mem_of_getLast? hx) y (List.mem_of_mem_head? hy)
  · intro h
    refine List.pairwise_append.2 ⟨hl, hm, fun u hu v hv => ?_⟩
    have h1 : u.key ≤ x.key := by
      obtain ⟨i, hi, rfl⟩ := List.mem_iff_getElem.1 hu
      rw [List.getLast?_eq_getElem?] at hx
      obtain ⟨hj, rfl⟩ := List.getElem?_eq_some_iff.1 hx
      rcases Nat.lt_or_ge i (l.length - 1) with h2 | h2
      · have := List.pairwise_iff_getElem.1 hl i (l.length - 1) hi hj h2; omega
      · have h3 : i = l.length - 1 := by omega
        subst h3; exact Int.le_refl _
    have h4 : y.key ≤ v.key := by
      cases m with
      | nil => cases hy
      | cons z t =>
        cases hy
        rcases List.mem_cons.1 hv with rfl | hv
        · exact Int.le_refl _
        · have := (List.pairwise_cons.1 hm).1 v hv; omega
    omega
end Go.Proofs.YtckkmmdibgoajaaGreat
set_option linter.unusedVariables false
set_option linter.unusedSimpArgs false
namespace Go.Proofs.YtckkmmdibgoajaaGreat
open Go.RowKit
set_option maxHeartbeats 16000000 in
set_option maxRecDepth 100000 in
theorem cat_walk (I : AImpl) (hchk : CheckSpec) (K : JoinImpl I) {a : Option Addr} {n c : Nat} {raw : List En} {at_ skip tilt free : Int} {swap : Bool} {w : World} (hE : EnsAt w a raw) (hn : raw.length = n) (hnm : n ≤ 9223372036854775807) (hat : i64R at_) (hsk : i64R skip) (ht0 : 0 ≤ tilt) (ht1 : tilt < 18446744073709551616) (hf0 : 0 ≤ free) (hf1 : free < 65536) :
    Calls Tryz.prog 6 #[.slice a n c, .int .i64 at_, .int .i64 skip, .int .u64 tilt, .bool swap, .int .u16 free] w (Calm w (.bool true)) := by
  have HK := Lib.hid K
  have HCHK := Lib.hid hchk
  have HAT := Lib.hid hat
  have HSK := Lib.hid hsk
  have HF : Hid (0 ≤ free ∧ free < 65536) := ⟨hf0, hf1⟩
  have HWF : Hid (∀ y ∈ listE raw 150, i64R y.key ∧ i64R y.val) := fun y hy => hE.wf y (listE_mem hy)
  have HL := Lib.hid (list_any (c := c) (k := 150) hE hn hnm (by decide))
  have HT : Hid (0 ≤ tilt ∧ tilt < 18446744073709551616) := ⟨ht0, ht1⟩
  have HUP := Lib.hid (listE_up raw 150)
  have HLEN := Lib.hid (listE_len raw 150)
  clear K hchk hE hn hnm ht0 ht1 hat hsk hf0 hf1
  go_enter Tryz.func6, Tryz.ntmps6
  go_wp2_with fail
  refine HL.out.mono ?_
  rintro e w1 ⟨a1, c1, rfl, hr1, hb1⟩
  have HR1 := Lib.hid hr1
  have HB1 := Lib.hid hb1
  clear hr1 hb1 HL
  generalize listE raw 150 = l at HUP HLEN HR1 HWF ⊢
  obtain ⟨L, hL⟩ : ∃ L, l.length = L := ⟨_, rfl⟩
  rw [hL] at HLEN HR1 ⊢
  have HLL := Lib.hid hL
  have hLi : (L : Int) ≤ 150 := by have := HLEN.out; omega
  have HE1 := Lib.hid (ens_row hL HR1.out HWF.out)
  have HC1 := Lib.hid (row_caps HR1.out)
  clear hL
  have hjn := join_le (l := (L : Int)) (r := 0) (by omega) (by omega) (by omega)
  obtain ⟨JN, hJN⟩ : ∃ JN, joinI (L : Int) 0 = JN := ⟨_, rfl⟩
  rw [hJN] at hjn
  have HJN : Hid (joinI (L : Int) 0 = JN ∧ 0 ≤ JN ∧ JN ≤ 64) := ⟨hJN, hjn.2, hjn.1⟩
  clear hjn hJN
  go_wp2_with fail
  refine (refJoin_any (L : Int) 0 w1 ⟨by omega, by omega⟩ ⟨by omega, by omega⟩).mono ?_
  rintro e w2 ⟨rfl, hb2⟩
  rw [HJN.out.1]
  have HB2 := Lib.hid hb2
  clear hb2
  go_wp2_with fail
  refine (spare13_any free JN w2 HF.out.1 HF.out.2 HJN.out.2.1 (by have := HJN.out; omega)).mono ?_
  rintro e w2' ⟨sp, rfl, hsp, rfl⟩
  have HSP : Hid (sp ≤ 72) := by have := HJN.out; show _ ≤ _; omega
  clear hsp
  go_wp2_with fail
  refine (pair13_any I (HE1.out.below HB2.out) HLL.out HC1.out.1 HC1.out.2 HUP.out (by have := HLEN.out; omega) (by have := HSP.out; omega) HAT.out HSK.out HT.out.1 HT.out.2).mono ?_
  rintro e w3 ⟨p, A, x, y, P, Q, tx, ty, F, a2, a3, c2, c3, rfl, hpr, hen, hc2, hc2m, hc3, hc3m⟩
  obtain ⟨pa, rfl⟩ := I.ptr hpr.is
  have HS3 := Lib.hid (Scn.init2 hpr.is hpr.foot hpr.below (HB1.out.trans (HB2.out.mono HB1.out.size)) (row_below HR1.out HB2.out))
  have hduo := hpr.duo HWF.out hen
  obtain ⟨R, hR⟩ : ∃ R, l.length - Q = R := ⟨_, rfl⟩
  rw [hR] at hduo hc3 ⊢
  have HDU := Lib.hid hduo
  have HCP : Hid (A.σ.cap = L + 1 + sp) := by have := hpr.cap; rw [HLL.out] at this; exact this
  have HC2 : Hid (P ≤ c2 ∧ c2 ≤ maxLen ∧ R ≤ c3 ∧ c3 ≤ maxLen) := ⟨hc2, hc2m, hc3, hc3m⟩
  have HPQ : Hid (P ≤ L ∧ R ≤ L) := by have := hduo.sum; rw [HLL.out] at this; exact ⟨by omega, by omega⟩
  clear hpr hen hc2 hc2m hc3 hc3m hduo hR HR1 HE1 HC1 HT HB1 HB2 HAT HSK
  go_wp2_with fail
  refine (awake13_any I HK.out w3).mono ?_
  rintro e w4 ⟨rfl, hb4⟩
  have HS4 := Lib.hid (HS3.out.calm hb4)
  clear hb4 HS3
  go_upto_if 50 with fail
  go_cut [15, 16, 17, 18] from 51 to 54 (fun s15 s16 s17 s18 wx => ∃ (X Y : Nat) (tX tY : Tr) (LX LY : List En) (aX aY : Option Addr) (PX PY cX cY : Nat), s15 = .int .u32 (X : Int) ∧ s16 = .int .u32 (Y : Int) ∧ s17 = .slice aX PX cX ∧ s18 = .slice aY PY cY ∧ Duo2 A a1 l X Y tX tY LX LY aX aY PX PY ∧ PX ≤ cX ∧ cX ≤ maxLen ∧ PY ≤ cY ∧ cY ≤ maxLen ∧ w4 = wx)
  case first =>
    cases swap with
    | false =>
      go_wp2_with fail
      go_meet
      exact ⟨x, y, tx, ty, _, _, a2, a3, P, R, c2, c3, rfl, rfl, rfl, rfl, HDU.out, HC2.out.1, HC2.out.2.1, HC2.out.2.2.1, HC2.out.2.2.2, rfl⟩
    | true =>
      go_wp2_with fail
      go_meet
      exact ⟨y, x, ty, tx, _, _, a3, a2, R, P, c3, c2, rfl, rfl, rfl, rfl, HDU.out.swap, HC2.out.2.2.1, HC2.out.2.2.2, HC2.out.1, HC2.out.2.1, rfl⟩
  case' rest =>
    obtain ⟨X, Y, tX, tY, LX, LY, aX, aY, PX, PY, cX, cY, rfl, rfl, rfl, rfl, hdu, hcx, hcxm, hcy, hcym, rfl⟩ := hcut
    clear HDU HC2 HPQ
    have HDU := Lib.hid hdu
    have HCXY : Hid (PX ≤ cX ∧ cX ≤ maxLen ∧ PY ≤ cY ∧ cY ≤ maxLen) := ⟨hcx, hcxm, hcy, hcym⟩
    have hsum : PX + PY ≤ L := by have := hdu.sum; rw [HLL.out] at this; exact this
    have hpx : (PX : Int) ≤ 150 := by have := HLEN.out; omega
    have hpy : (PY : Int) ≤ 150 := by have := HLEN.out; omega
    have HSUM := Lib.hid hsum
    have HXI : Hid (X < 4294967296 ∧ Y < 4294967296) := ⟨hdu.tx.idx, hdu.ty.idx⟩
    have HHM : Hid (∀ j, hof [X, Y] j ≤ 1048000) := fun j => by have := hof_le [X, Y] j; simp at this; omega
    clear hdu hcx hcxm hcy hcym hsum
    go_wp2_with fail
    refine HS4.out.dump.mono ?_
    rintro e w9 ⟨da, dc, db, dd, rfl, hs9, -⟩
    obtain ⟨N, hN⟩ : ∃ N, A.σ.cap = N := ⟨_, rfl⟩
    obtain ⟨M, hM⟩ : ∃ M, A.σ.free.length = M := ⟨_, rfl⟩
    rw [hN, hM] at hs9 ⊢
    have hMN : M ≤ N := by rw [← hN, ← hM]; exact HDU.out.inv.ok.len
    have HNM : Hid (A.σ.cap = N ∧ A.σ.free.length = M ∧ (N : Int) ≤ 1000 ∧ (M : Int) ≤ 1000) := ⟨hN, hM, by have := HCP.out; have := HSP.out; have := HLEN.out; omega, by have := HCP.out; have := HSP.out; have := HLEN.out; omega⟩
    have HS9 := Lib.hid hs9
    clear hs9 hN hM hMN HS4
    go_wp2_with fail
    refine HS9.out.reads.mono ?_
    rintro e w10 ⟨rfl, hs10⟩
    have hs11 := hs10.box #[.slice da N dc, .slice db M dd] 41
    clear hs10 HS9
    go_upto_region 8 with fail
    generalize w10.alloc (.cells #[.slice da N dc, .slice db M dd] 41) = w11 at hs11 ⊢
    generalize w10.heap.size = q at hs11 ⊢
    obtain ⟨rs, hrs⟩ : ∃ rs : List Row, rs = [⟨30, 1, .slice db M dd, M, u32s A.σ.free⟩, ⟨90, 11, .slice da N dc, N, slotsV A⟩, ⟨25, 2, .slice a1 L c1, L, ensV l⟩] := ⟨_, rfl⟩
    rw [← hrs] at hs11
    have HR0 : Hid ((⟨30, 1, .slice db M dd, M, u32s A.σ.free⟩ : Row) ∈ rs) := by show _ ∈ _; rw [hrs]; simp
    have HR1 : Hid ((⟨90, 11, .slice da N dc, N, slotsV A⟩ : Row) ∈ rs) := by show _ ∈ _; rw [hrs]; simp
    have HR2 : Hid ((⟨25, 2, .slice a1 L c1, L, ensV l⟩ : Row) ∈ rs) := by show _ ∈ _; rw [hrs]; simp
    have HS11 := Lib.hid hs11
    clear hs11 hrs
    have HCEL : Hid (∀ {wx : World} {C : Ar} {rdx : Int} {rs' : List Row} {bs' : List (Nat × Obj)}, Scn I w.heap.size w wx (.pointer (some pa)) C rdx rs' (bs' ++ [(q, .cells #[.slice da N dc, .slice db M dd] 41 (0, 0))]) → wx.cell? ⟨q, 0, none⟩ = some (.slice da N dc) ∧ wx.cell? ⟨q, 1, none⟩ = some (.slice db M dd)) := fun {wx C rdx rs' bs'} h => two_cells (h.boxes (q, .cells #[.slice da N dc, .slice db M dd] 41 (0, 0)) (by simp)).2
    have HENS : Hid (∀ {wx : World} {C : Ar} {rdx : Int} {rs' : List Row} {bs' : List (Nat × Obj)}, Scn I w.heap.size w wx (.pointer (some pa)) C rdx (rs' ++ rs) bs' → EnsAt wx aX LX ∧ EnsAt wx aY LY) := fun {wx C rdx rs' bs'} h => HDU.out.en wx (ens_row (B := w.heap.size) (c := c1) HLL.out (h.rows _ (List.mem_append_right _ HR2.out)) HWF.out)
    go_wp2_with fail
    refine (HS11.out.mut fun F hI => HK.out.concat w11 hI HDU.out.inv HHM.out HDU.out.tx HDU.out.ty HDU.out.wx HDU.out.wy (by decide) (by decide)).mono ?_
    rintro e w12 ⟨B, rd, ⟨h40, h41, hq⟩, hs12⟩
    have HS12 := Lib.hid hs12
    obtain ⟨H, hH⟩ : ∃ H, (xh (L + 1) : Int) = H := ⟨_, rfl⟩
    have hH2 := (xh_spec (n := L + 1) (by have := HLEN.out; omega)).2.1
    have hHb : 0 ≤ H ∧ H ≤ 80 := ⟨by omega, by omega⟩
    have hbd : joinBd LX.length LY.length ≤ 60 * (H + 2) := by
      unfold joinBd
      rw [HDU.out.lx, HDU.out.ly]
      have := xh_mono (m := PX + PY + 1) (n := L + 1) (by have := HSUM.out; omega) (by have := HLEN.out; omega)
      omega
    have HRD : Hid (0 ≤ rd ∧ rd ≤ 0 + 60 * (H + 2) ∧ rd ≤ 10000 ∧ 60 * (H + 2) ≤ 10000) := ⟨h40, by omega, by omega, by omega⟩
    have HHI : Hid (xhI ((L : Int) + 1) = H) := by show _ = _; rw [show (L : Int) + 1 = ((L + 1 : Nat) : Int) by omega, xhI_nat (by have := HLEN.out; omega)]; exact hH
    have HHT : Hid (∀ wx, Calls Tryz.prog 19 #[.int .i64 ((L : Int) + 1)] wx (Calm wx (.int .i64 H))) := fun wx => by rw [← HHI.out]; exact height_kit _ wx (by omega) (by have := HLEN.out; omega)
    obtain ⟨hH0, hH80⟩ := hHb
    clear hs12 HS11 h40 h41 hH hH2 hbd
    rcases hq with ⟨he0, tj, rfl, hgot, hfree⟩ | ⟨⟨hx0, hy0⟩, hup, rfl, rfl⟩ | ⟨⟨hx0, hy0⟩, hup, hfull, rfl, rfl⟩ | ⟨⟨hx0, hy0⟩, hup, hroom, j, tj, rfl, hgot⟩
    · have HE0 : Hid (PX = 0 ∨ PY = 0) := he0.imp (fun h => by rw [← HDU.out.lx, h]; rfl) (fun h => by rw [← HDU.out.ly, h]; rfl)
      have HFB : Hid (B.σ.free.length = M) := hfree.trans HNM.out.2.1
      have HINV : Hid (B.Inv [] (hof [X, Y, X + Y])) := by
        have := hgot.inv
        rw [hof_pls] at this
        exact this
      have HBG : Hid (B.Agg ∧ B.σ.cap = N ∧ KeptS N A.sl B.sl) := ⟨hgot.agg, hgot.kept.cap.trans HNM.out.1, kept_keptS2 hgot.kept hgot.gen⟩
      have HON : Hid (∀ z ∈ [X, Y, X + Y], z = 0 ∨ B.σ.on z = true) := fun z hz => by
        simp at hz
        rcases hz with rfl | rfl | rfl
        · exact HDU.out.tx.sub.idx.imp_right (hgot.kept.on _)
        · exact HDU.out.ty.sub.idx.imp_right (hgot.kept.on _)
        · exact hgot.sub.idx
      have HJI : Hid (X + Y < 4294967296) := hgot.idx
      have hxy : IntKind.u32.wrap ((X : Int) + (Y : Int)) = (X : Int) + (Y : Int) := by rw [IntKind.wrap_u32]; have := HJI.out; omega
      have hcast : (((X + Y : Nat) : Int)) = (X : Int) + (Y : Int) := by omega
      clear he0 hgot hfree
      go_wp2_with fail
      refine (HHT.out w12).mono ?_
      rintro e w13 ⟨rfl, hb13⟩
      have HS13 := Lib.hid (HS12.out.calm hb13)
      clear hb13 HS12
      go_wp2_with fail
      refine (within_any (most := 60 * (H + 2)) HS13.out.mr (Int.le_refl _) HRD.out.1 HRD.out.2.1 (by have := HRD.out; omega) (by have := HRD.out; omega)).mono ?_
      rintro e w14 ⟨rfl, hb14⟩
      have HS14 := Lib.hid (HS13.out.calm hb14)
      clear hb14 HS13
      go_upto_region 11 with fail
      go_cut [83] from 76 to 82 (fun s wx => s = .bool true ∧ w14 = wx)
      case first =>
        rcases HE0.out with hp | hp
        · have p1 : ((PX : Int) == 0) = true := by simp; omega
          clear hp
          go_wp2_with fail
          go_meet
          exact ⟨rfl, rfl⟩
        · have p3 : ((PY : Int) == 0) = true := by simp; omega
          clear hp
          by_cases hp : PX = 0
          · have p1 : ((PX : Int) == 0) = true := by simp; omega
            clear hp
            go_wp2_with fail
            go_meet
            exact ⟨rfl, rfl⟩
          · have p1 : ((PX : Int) == 0) = false := by simp; omega
            clear hp
            go_wp2_with fail
            go_meet
            exact ⟨rfl, rfl⟩
      case' rest =>
        obtain ⟨rfl, rfl⟩ := hcut
        go_upto_region 12 with fail
        obtain ⟨q0, q1⟩ := HCEL.out (bs' := []) HS14.out
        have hSd := HS14.out.calm (Below.refl _ _).drew
        have hmm : ((M : Int) == (M : Int)) = true := by simp
        have hxx : ((X : Int) + (Y : Int) == (X : Int) + (Y : Int)) = true := by simp
        go_region_held3 (fun w' => w'.cell? ⟨q, 0, none⟩ = some (.slice da N dc) ∧ w'.cell? ⟨q, 1, none⟩ = some (.slice db M dd)) (go_keep) (first
          | (go_at_call 20; refine hSd.free.mono ?_; rintro e wC ⟨rfl, hsC⟩; rw [HFB.out]; obtain ⟨q0, q1⟩ := HCEL.out (bs' := []) hsC)
          | (go_at_call 21; refine ((hsC.box _ _).sound HCHK.out HINV.out HBG.out.1 (u3_at _ _ X Y (X + Y) HXI.out.1 HXI.out.2 HJI.out) (L := 3) rfl (by decide) HON.out).mono ?_; rintro e wE ⟨rfl, hbE⟩; have hsE := (hsC.box _ _).calm hbE; obtain ⟨q0, q1⟩ := HCEL.out (bs' := [_]) hsE))
        all_goals (go_wp2_with fail; go_ret; exact ⟨rfl, hsE.below⟩)
    · have HUP2 := Lib.hid hup
      obtain ⟨kx, hkx⟩ : ∃ e, LX.getLast? = some e := ⟨_, List.getLast?_eq_some_getLast hx0⟩
      obtain ⟨ky, hky⟩ : ∃ e, LY.head? = some e := ⟨_, List.head?_eq_some_head hy0⟩
      have HUJ := Lib.hid (up_join HDU.out.tx.up HDU.out.ty.up hkx hky)
      have HNE : Hid (0 < PX ∧ 0 < PY) := ⟨by rw [← HDU.out.lx]; exact List.length_pos_iff.2 hx0, by rw [← HDU.out.ly]; exact List.length_pos_iff.2 hy0⟩
      obtain ⟨m, hm⟩ : ∃ m, PX = m + 1 := ⟨PX - 1, by have := HNE.out; omega⟩
      have HM1 : Hid (LX[m]? = some kx ∧ LY[0]? = some ky) := ⟨by rw [List.getLast?_eq_getElem?, HDU.out.lx, hm] at hkx; exact hkx, by rw [← hky]; cases LY <;> rfl⟩
      have hm1 : IntKind.i64.wrap ((PX : Int) - 1) = (m : Int) := by rw [IntKind.wrap_i64]; omega
      have hm2 : (m : Int) < (PX : Int) := by omega
      have hm3 : (0 : Int) ≤ (m : Int) := by omega
      have hy1 : (0 : Int) < (PY : Int) := by have := HNE.out; omega
      clear hkx hky hx0 hy0 hm
      clear hup
      go_wp2_with fail
      refine (HHT.out w12).mono ?_
      rintro e w13 ⟨rfl, hb13⟩
      have HS13 := Lib.hid (HS12.out.calm hb13)
      clear hb13 HS12
      go_wp2_with fail
      refine (within_any (most := 60 * (H + 2)) HS13.out.mr (Int.le_refl _) HRD.out.1 HRD.out.2.1 (by have := HRD.out; omega) (by have := HRD.out; omega)).mono ?_
      rintro e w14 ⟨rfl, hb14⟩
      have HS14 := Lib.hid (HS13.out.calm hb14)
      clear hb14 HS13
      go_upto_region 11 with fail
      go_cut [83] from 76 to 82 (fun s wx => s = .bool false ∧ w14 = wx)
      case first =>
        have p1 : ((PX : Int) == 0) = false := by have := HNE.out; simp; omega
        have p3 : ((PY : Int) == 0) = false := by have := HNE.out; simp; omega
        go_wp2_with fail
        go_meet
        exact ⟨rfl, rfl⟩
      case' rest =>
        obtain ⟨rfl, rfl⟩ := hcut
        go_upto_region 14 with fail
        obtain ⟨hex, hey⟩ := HENS.out (rs' := []) HS14.out
        obtain ⟨b, off, rfl, hb, c0, -⟩ := hex.cell m kx HM1.out.1
        obtain ⟨b', off', rfl, hb', d0, -⟩ := hey.cell 0 ky HM1.out.2
        have d1 : w14.cell? ⟨b', off', none⟩ = some (.int .i64 ky.key) := d0
        have hge : decide (kx.key ≥ ky.key) = true := decide_eq_true (by have := HUJ.out; have := HUP2.out; simp only [ge_iff_le]; exact Int.not_lt.1 fun h => HUP2.out (HUJ.out.2 h))
        have hge2 : decide (ky.key ≤ kx.key) = true := hge
        clear hex hey hb hb'
        go_quiet (fail)
        rename Nat => d15
        have HS15 := Lib.hid (HS14.out.calm (below_drewN (Below.refl _ _) d15))
        generalize w14.drewN d15 = w15 at HS15 ⊢
        clear c0 d0 d1 HS14 hge hge2 hm1 hm2 hm3
        go_upto_region 21 with fail
        obtain ⟨q0, q1⟩ := HCEL.out (bs' := []) HS15.out
        have hSd := HS15.out.calm (Below.refl _ _).drew
        go_region_held3 (fun w' => w'.cell? ⟨q, 0, none⟩ = some (.slice da N dc) ∧ w'.cell? ⟨q, 1, none⟩ = some (.slice db M dd)) (go_keep) (first
          | (go_at_call 15; refine hSd.dump.mono ?_; rintro e wC ⟨ea, ec, eb, ed, rfl, hsC, -⟩; rw [HNM.out.1, HNM.out.2.1] at hsC ⊢; obtain ⟨q0, q1⟩ := HCEL.out (bs' := []) hsC)
          | (go_at_call 22; refine (same_dump B.σ.free HNM.out.2.1 (hsC.slots_of (c := ec) HDU.out.inv HNM.out.1 (by simp)) (hsC.slots_of (c := dc) HDU.out.inv HNM.out.1 (by simp [HR1.out])) (hsC.rows ⟨30, 1, .slice eb M ed, M, u32s B.σ.free⟩ (by simp)) (hsC.rows ⟨30, 1, .slice db M dd, M, u32s B.σ.free⟩ (by simp [HR0.out])) (by have := HNM.out; omega) (by have := HNM.out; omega)).mono ?_; rintro e wD ⟨rfl, hbD⟩; have hsD := hsC.calm hbD; obtain ⟨q0, q1⟩ := HCEL.out (bs' := []) hsD))
        all_goals (go_wp2_with fail; go_ret; exact ⟨rfl, hsD.below⟩)
    · have HUP2 := Lib.hid hup
      obtain ⟨J2, hJ2⟩ : ∃ J2, joinI (PX : Int) (PY : Int) = J2 := ⟨_, rfl⟩
      have hj2 := join_le (l := (PX : Int)) (r := (PY : Int)) (by omega) (by omega) (by have := HSUM.out; have := HLEN.out; omega)
      have HJ2 : Hid (joinI (PX : Int) (PY : Int) = J2 ∧ 0 ≤ J2 ∧ J2 ≤ 64) := ⟨hJ2, by rw [← hJ2]; exact hj2.2, by rw [← hJ2]; exact hj2.1⟩
      clear hJ2 hj2
      have HROOM : Hid ((M : Int) < J2) := by show _ < _; rw [← HJ2.out.1, ← HNM.out.2.1, ← HDU.out.lx, ← HDU.out.ly]; exact hfull
      obtain ⟨kx, hkx⟩ : ∃ e, LX.getLast? = some e := ⟨_, List.getLast?_eq_some_getLast hx0⟩
      obtain ⟨ky, hky⟩ : ∃ e, LY.head? = some e := ⟨_, List.head?_eq_some_head hy0⟩
      have HUJ := Lib.hid (up_join HDU.out.tx.up HDU.out.ty.up hkx hky)
      have HNE : Hid (0 < PX ∧ 0 < PY) := ⟨by rw [← HDU.out.lx]; exact List.length_pos_iff.2 hx0, by rw [← HDU.out.ly]; exact List.length_pos_iff.2 hy0⟩
      obtain ⟨m, hm⟩ : ∃ m, PX = m + 1 := ⟨PX - 1, by have := HNE.out; omega⟩
      have HM1 : Hid (LX[m]? = some kx ∧ LY[0]? = some ky) := ⟨by rw [List.getLast?_eq_getElem?, HDU.out.lx, hm] at hkx; exact hkx, by rw [← hky]; cases LY <;> rfl⟩
      have hm1 : IntKind.i64.wrap ((PX : Int) - 1) = (m : Int) := by rw [IntKind.wrap_i64]; omega
      have hm2 : (m : Int) < (PX : Int) := by omega
      have hm3 : (0 : Int) ≤ (m : Int) := by omega
      have hy1 : (0 : Int) < (PY : Int) := by have := HNE.out; omega
      clear hkx hky hx0 hy0 hm
      clear hup hfull
      go_wp2_with fail
      refine (HHT.out w12).mono ?_
      rintro e w13 ⟨rfl, hb13⟩
      have HS13 := Lib.hid (HS12.out.calm hb13)
      clear hb13 HS12
      go_wp2_with fail
      refine (within_any (most := 60 * (H + 2)) HS13.out.mr (Int.le_refl _) HRD.out.1 HRD.out.2.1 (by have := HRD.out; omega) (by have := HRD.out; omega)).mono ?_
      rintro e w14 ⟨rfl, hb14⟩
      have HS14 := Lib.hid (HS13.out.calm hb14)
      clear hb14 HS13
      go_upto_region 11 with fail
      go_cut [83] from 76 to 82 (fun s wx => s = .bool false ∧ w14 = wx)
      case first =>
        have p1 : ((PX : Int) == 0) = false := by have := HNE.out; simp; omega
        have p3 : ((PY : Int) == 0) = false := by have := HNE.out; simp; omega
        go_wp2_with fail
        go_meet
        exact ⟨rfl, rfl⟩
      case' rest =>
        obtain ⟨rfl, rfl⟩ := hcut
        go_upto_region 14 with fail
        obtain ⟨hex, hey⟩ := HENS.out (rs' := []) HS14.out
        obtain ⟨b, off, rfl, hb, c0, -⟩ := hex.cell m kx HM1.out.1
        obtain ⟨b', off', rfl, hb', d0, -⟩ := hey.cell 0 ky HM1.out.2
        have d1 : w14.cell? ⟨b', off', none⟩ = some (.int .i64 ky.key) := d0
        have hge : decide (kx.key ≥ ky.key) = false := decide_eq_false (by have := HUJ.out; have := HUP2.out; simp only [ge_iff_le]; exact Int.not_le.2 (HUJ.out.1 HUP2.out))
        have hge2 : decide (ky.key ≤ kx.key) = false := hge
        clear hex hey hb hb'
        go_quiet (fail)
        rename Nat => d15
        have HS15 := Lib.hid (HS14.out.calm (below_drewN (Below.refl _ _) d15))
        generalize w14.drewN d15 = w15 at HS15 ⊢
        clear c0 d0 d1 HS14 hge hge2 hm1 hm2 hm3
        have hms : decide ((M : Int) < J2) = true := decide_eq_true (by have := HROOM.out; omega)
        have HRJ : Hid (∀ wx, Calls Tryz.prog 29 #[.int .i64 (PX : Int), .int .i64 (PY : Int)] wx (Calm wx (.int .i64 J2))) := fun wx => by rw [← HJ2.out.1]; exact refJoin_any _ _ _ ⟨by omega, by omega⟩ ⟨by omega, by omega⟩
        go_upto_region 16 with fail
        obtain ⟨q0, q1⟩ := HCEL.out (bs' := []) HS15.out
        have hSd := HS15.out.calm (Below.refl _ _).drew
        go_region_held3 (fun w' => w'.cell? ⟨q, 0, none⟩ = some (.slice da N dc) ∧ w'.cell? ⟨q, 1, none⟩ = some (.slice db M dd)) (go_keep) ((go_at_call 29; refine (HRJ.out _).mono ?_; rintro e wA ⟨rfl, hbA⟩; have hSA := hSd.calm hbA; obtain ⟨q0, q1⟩ := HCEL.out (bs' := []) hSA))
        have HS16 := Lib.hid hSA
        clear q0 q1 HS15 hSd hSA hms hbA
        rename World => w16
        go_upto_region 21 with fail
        obtain ⟨q0, q1⟩ := HCEL.out (bs' := []) HS16.out
        have hSd := HS16.out.calm (Below.refl _ _).drew
        go_region_held3 (fun w' => w'.cell? ⟨q, 0, none⟩ = some (.slice da N dc) ∧ w'.cell? ⟨q, 1, none⟩ = some (.slice db M dd)) (go_keep) (first
          | (go_at_call 15; refine hSd.dump.mono ?_; rintro e wC ⟨ea, ec, eb, ed, rfl, hsC, -⟩; rw [HNM.out.1, HNM.out.2.1] at hsC ⊢; obtain ⟨q0, q1⟩ := HCEL.out (bs' := []) hsC)
          | (go_at_call 22; refine (same_dump B.σ.free HNM.out.2.1 (hsC.slots_of (c := ec) HDU.out.inv HNM.out.1 (by simp)) (hsC.slots_of (c := dc) HDU.out.inv HNM.out.1 (by simp [HR1.out])) (hsC.rows ⟨30, 1, .slice eb M ed, M, u32s B.σ.free⟩ (by simp)) (hsC.rows ⟨30, 1, .slice db M dd, M, u32s B.σ.free⟩ (by simp [HR0.out])) (by have := HNM.out; omega) (by have := HNM.out; omega)).mono ?_; rintro e wD ⟨rfl, hbD⟩; have hsD := hsC.calm hbD; obtain ⟨q0, q1⟩ := HCEL.out (bs' := []) hsD))
        all_goals (go_wp2_with fail; go_ret; exact ⟨rfl, hsD.below⟩)
    · have HUP2 := Lib.hid hup
      obtain ⟨J2, hJ2⟩ : ∃ J2, joinI (PX : Int) (PY : Int) = J2 := ⟨_, rfl⟩
      have hj2 := join_le (l := (PX : Int)) (r := (PY : Int)) (by omega) (by omega) (by have := HSUM.out; have := HLEN.out; omega)
      have HJ2 : Hid (joinI (PX : Int) (PY : Int) = J2 ∧ 0 ≤ J2 ∧ J2 ≤ 64) := ⟨hJ2, by rw [← hJ2]; exact hj2.2, by rw [← hJ2]; exact hj2.1⟩
      clear hJ2 hj2
      have HROOM : Hid (J2 ≤ (M : Int)) := by show _ ≤ _; rw [← HJ2.out.1, ← HNM.out.2.1, ← HDU.out.lx, ← HDU.out.ly]; exact hroom
      have HTJ := Lib.hid (hgot.tree hup)
      have HINV : Hid (B.Inv [] (hof [X, Y, j])) := by
        have := hgot.inv
        rw [hof_pls] at this
        exact this
      have HBG : Hid (B.Agg ∧ B.σ.cap = N ∧ KeptS N A.sl B.sl) := ⟨hgot.agg, hgot.kept.cap.trans HNM.out.1, kept_keptS2 hgot.kept hgot.gen⟩
      have HON : Hid (∀ z ∈ [X, Y, j], z = 0 ∨ B.σ.on z = true) := fun z hz => by
        simp at hz
        rcases hz with rfl | rfl | rfl
        · exact HDU.out.tx.sub.idx.imp_right (hgot.kept.on _)
        · exact HDU.out.ty.sub.idx.imp_right (hgot.kept.on _)
        · exact hgot.sub.idx
      have HJI : Hid (j < 4294967296) := hgot.idx
      obtain ⟨kx, hkx⟩ : ∃ e, LX.getLast? = some e := ⟨_, List.getLast?_eq_some_getLast hx0⟩
      obtain ⟨ky, hky⟩ : ∃ e, LY.head? = some e := ⟨_, List.head?_eq_some_head hy0⟩
      have HUJ := Lib.hid (up_join HDU.out.tx.up HDU.out.ty.up hkx hky)
      have HNE : Hid (0 < PX ∧ 0 < PY) := ⟨by rw [← HDU.out.lx]; exact List.length_pos_iff.2 hx0, by rw [← HDU.out.ly]; exact List.length_pos_iff.2 hy0⟩
      obtain ⟨m, hm⟩ : ∃ m, PX = m + 1 := ⟨PX - 1, by have := HNE.out; omega⟩
      have HM1 : Hid (LX[m]? = some kx ∧ LY[0]? = some ky) := ⟨by rw [List.getLast?_eq_getElem?, HDU.out.lx, hm] at hkx; exact hkx, by rw [← hky]; cases LY <;> rfl⟩
      have hm1 : IntKind.i64.wrap ((PX : Int) - 1) = (m : Int) := by rw [IntKind.wrap_i64]; omega
      have hm2 : (m : Int) < (PX : Int) := by omega
      have hm3 : (0 : Int) ≤ (m : Int) := by omega
      have hy1 : (0 : Int) < (PY : Int) := by have := HNE.out; omega
      clear hkx hky hx0 hy0 hm
      clear hup hroom hgot
      go_wp2_with fail
      refine (HHT.out w12).mono ?_
      rintro e w13 ⟨rfl, hb13⟩
      have HS13 := Lib.hid (HS12.out.calm hb13)
      clear hb13 HS12
      go_wp2_with fail
      refine (within_any (most := 60 * (H + 2)) HS13.out.mr (Int.le_refl _) HRD.out.1 HRD.out.2.1 (by have := HRD.out; omega) (by have := HRD.out; omega)).mono ?_
      rintro e w14 ⟨rfl, hb14⟩
      have HS14 := Lib.hid (HS13.out.calm hb14)
      clear hb14 HS13
      go_upto_region 11 with fail
      go_cut [83] from 76 to 82 (fun s wx => s = .bool false ∧ w14 = wx)
      case first =>
        have p1 : ((PX : Int) == 0) = false := by have := HNE.out; simp; omega
        have p3 : ((PY : Int) == 0) = false := by have := HNE.out; simp; omega
        go_wp2_with fail
        go_meet
        exact ⟨rfl, rfl⟩
      case' rest =>
        obtain ⟨rfl, rfl⟩ := hcut
        go_upto_region 14 with fail
        obtain ⟨hex, hey⟩ := HENS.out (rs' := []) HS14.out
        obtain ⟨b, off, rfl, hb, c0, -⟩ := hex.cell m kx HM1.out.1
        obtain ⟨b', off', rfl, hb', d0, -⟩ := hey.cell 0 ky HM1.out.2
        have d1 : w14.cell? ⟨b', off', none⟩ = some (.int .i64 ky.key) := d0
        have hge : decide (kx.key ≥ ky.key) = false := decide_eq_false (by have := HUJ.out; have := HUP2.out; simp only [ge_iff_le]; exact Int.not_le.2 (HUJ.out.1 HUP2.out))
        have hge2 : decide (ky.key ≤ kx.key) = false := hge
        clear hex hey hb hb'
        go_quiet (fail)
        rename Nat => d15
        have HS15 := Lib.hid (HS14.out.calm (below_drewN (Below.refl _ _) d15))
        generalize w14.drewN d15 = w15 at HS15 ⊢
        clear c0 d0 d1 HS14 hge hge2 hm1 hm2 hm3
        have hms : decide ((M : Int) < J2) = false := decide_eq_false (by have := HROOM.out; omega)
        have HRJ : Hid (∀ wx, Calls Tryz.prog 29 #[.int .i64 (PX : Int), .int .i64 (PY : Int)] wx (Calm wx (.int .i64 J2))) := fun wx => by rw [← HJ2.out.1]; exact refJoin_any _ _ _ ⟨by omega, by omega⟩ ⟨by omega, by omega⟩
        go_upto_region 16 with fail
        obtain ⟨q0, q1⟩ := HCEL.out (bs' := []) HS15.out
        have hSd := HS15.out.calm (Below.refl _ _).drew
        go_region_held3 (fun w' => w'.cell? ⟨q, 0, none⟩ = some (.slice da N dc) ∧ w'.cell? ⟨q, 1, none⟩ = some (.slice db M dd)) (go_keep) ((go_at_call 29; refine (HRJ.out _).mono ?_; rintro e wA ⟨rfl, hbA⟩; have hSA := hSd.calm hbA; obtain ⟨q0, q1⟩ := HCEL.out (bs' := []) hSA))
        have HS16 := Lib.hid hSA
        clear q0 q1 HS15 hSd hSA hms hbA
        rename World => w16
        go_upto_region 22 with fail
        obtain ⟨q0, q1⟩ := HCEL.out (bs' := []) HS16.out
        have hSd := HS16.out.calm (Below.refl _ _).drew
        have hBd : Below w16.heap.size w16 w16.drew := (Below.refl _ _).drew
        have hnil0 : ([] : List En).length + PX ≤ 100000000 := by simp; omega
        have hnil1 : LX.length + PY ≤ 100000000 := by rw [HDU.out.lx]; omega
        have HKEEP : Hid (∀ w', Below w16.heap.size w16 w' → Below w16.heap.size w16 w' ∧ w'.cell? ⟨q, 0, none⟩ = some (.slice da N dc) ∧ w'.cell? ⟨q, 1, none⟩ = some (.slice db M dd)) := fun w' hb => ⟨hb, HCEL.out (bs' := []) (HS16.out.calm hb)⟩
        have HWXY : Hid (∀ y ∈ LX ++ LY, i64R y.key ∧ i64R y.val) := fun y hy => (List.mem_append.1 hy).elim (HDU.out.wx y) (HDU.out.wy y)
        obtain ⟨LN, hLN⟩ : ∃ LN, (LX ++ LY).length = LN := ⟨_, rfl⟩
        have HL2 : Hid ((LX ++ LY).length = LN ∧ LN ≤ 65536) := ⟨hLN, by rw [← hLN, List.length_append, HDU.out.lx, HDU.out.ly]; omega⟩
        clear hLN
        go_region_held3 (fun w' => Below w16.heap.size w16 w' ∧ w'.cell? ⟨q, 0, none⟩ = some (.slice da N dc) ∧ w'.cell? ⟨q, 1, none⟩ = some (.slice db M dd)) ((refine HKEEP.out _ ?_; repeat (first | with_reducible assumption | with_reducible exact Below.refl _ _ | with_reducible refine Below.drew ?_ | with_reducible refine below_alT ?_ _))) (first
          | (go_at_call 36; refine (tree13_any hs6 HINV.out HTJ.out (ens_row (B := w.heap.size) (c := xc) HL2.out.1 (hs6.rows _ (List.mem_cons_self ..)) HWXY.out) HL2.out.1 HL2.out.2).mono ?_; rintro e w7 ⟨rfl, hb7⟩; have hs7 := hs6.calm hb7; have hB7 := hB6.trans (hb7.mono hB6.size); obtain ⟨q0, q1⟩ := HCEL.out (bs' := []) hs7)
          | (go_at_call 15; refine hs7.dump.mono ?_; rintro e wC ⟨ea, ec, eb, ed, rfl, hsC, hbC⟩; have hBC := hB7.trans (hbC.mono hB7.size); rw [HBG.out.2.1] at hsC ⊢; obtain ⟨q0, q1⟩ := HCEL.out (bs' := []) hsC)
          | (go_at_call 25; refine (kept_any (hsC.slots_of (c := dc) HDU.out.inv HNM.out.1 (by simp [HR1.out])) (hsC.slots_of (c := ec) HINV.out HBG.out.2.1 (by simp)) HBG.out.2.2 (by have := HNM.out; omega)).mono ?_; rintro e wD ⟨rfl, hbD⟩; have hsD := hsC.calm hbD; have hBD := hBC.trans (hbD.mono hBC.size); obtain ⟨q0, q1⟩ := HCEL.out (bs' := []) hsD)
          | (go_at_call 21; refine ((hsD.box _ _).sound HCHK.out HINV.out HBG.out.1 (u3_at _ _ X Y j HXI.out.1 HXI.out.2 HJI.out) (L := 3) rfl (by decide) HON.out).mono ?_; rintro e wE ⟨rfl, hbE⟩; have hsE := (hsD.box _ _).calm hbE; have hBE := (below_alT hBD _).trans (hbE.mono (below_alT hBD _).size); obtain ⟨q0, q1⟩ := HCEL.out (bs' := [_]) hsE)
          | (refine step_append_ens rfl (.const (.slice none 0 0)) (.tmp 145) rfl (ESt.start _ rfl) rfl rfl (some ⟨b, off, none⟩) cX PX HDU.out.lx rfl (HENS.out (rs' := []) hSd).1 hnil0 ?_; intro v5 w5 hc5; rw [List.nil_append] at hc5; have hs5 := hSd.calm hc5.below; have hB5 := hBd.trans (hc5.below.mono hBd.size); obtain ⟨q0, q1⟩ := HCEL.out (bs' := []) hs5)
          | (refine step_append_ens rfl (.tmp 146) (.tmp 147) rfl hc5 rfl rfl (some ⟨b', off', none⟩) cY PY HDU.out.ly rfl (HENS.out (rs' := []) hs5).2 hnil1 ?_; intro v6 w6 hc6; obtain ⟨xa, xc, rfl⟩ := hc6.val; have hs6 := hSd.row hc6.below hc6.row; rw [HL2.out.1] at hs6 ⊢; have hB6 := hBd.trans (hc6.below.mono hBd.size); obtain ⟨q0, q1⟩ := HCEL.out (bs' := []) hs6))
        all_goals (go_wp2_with fail; go_ret; exact ⟨rfl, hsE.below⟩)
end Go.Proofs.YtckkmmdibgoajaaGreat
