/- Of the proof of UUpdateIncreasesP: ScnMut, UpPl0, LawUpInc. -/
import Derived.Test.YtckkmmdibgoajaaU1
import Derived.Test.YtckkmmdibgoajaaU2
import Derived.Test.YtckkmmdibgoajaaU3
import Derived.Test.YtckkmmdibgoajaaU4
import Derived.Test.YtckkmmdibgoajaaU5
import Derived.Test.YtckkmmdibgoajaaU6
import Derived.Test.YtckkmmdibgoajaaU10
import Derived.Test.YtckkmmdibgoajaaU11
import Derived.Test.YtckkmmdibgoajaaU12
import Derived.Test.YtckkmmdibgoajaaU13
import Derived.Deep.RegionHeld3
import Derived.Deep.QuietTactic
import Derived.Deep.DeepCutAuto
set_option linter.unusedVariables false
set_option linter.unusedSimpArgs false
namespace Go.Proofs.Ytckkmmdibgoajaa
open Go.RowKit
theorem u3_at (w : World) (t : TypeId) (x y z : Nat) (hx : x < 4294967296) (hy : y < 4294967296) (hz : z < 4294967296) :
    U32At (w.alloc (.cells #[.int .u32 (x : Int), .int .u32 (y : Int), .int .u32 (z : Int)] t)) (some ⟨w.heap.size, 0, none⟩) [x, y, z] := by
  have hr := heap_alloc_new w (.cells #[.int .u32 (x : Int), .int .u32 (y : Int), .int .u32 (z : Int)] t)
  refine ⟨fun j hj => ⟨w.heap.size, 0, rfl, by simp, ?_⟩, fun u hu => ?_⟩
  · match j, hj with
    | 0, _ => rw [cell_of_row _ _ _ _ _ _ hr]; rfl
    | 1, _ => rw [cell_of_row _ _ _ _ _ _ hr]; rfl
    | 2, _ => rw [cell_of_row _ _ _ _ _ _ hr]; rfl
    | j + 3, hj => exact absurd hj (by simp)
  · simp at hu
    rcases hu with rfl | rfl | rfl
    · exact hx
    · exact hy
    · exact hz
end Go.Proofs.Ytckkmmdibgoajaa
set_option linter.unusedVariables false
set_option linter.unusedSimpArgs false
namespace Go.Proofs.Ytckkmmdibgoajaa
theorem ins_same {l : List En} (hu : Up l) {e f : En} (h : e.key = f.key) : insE (insE l e) f = insE l f := by
  refine up_ext (insE_up f (insE_up e hu)) (insE_up f hu) fun y => ?_
  rw [ins_mem, ins_mem, ins_mem]
  constructor
  · rintro (rfl | ⟨rfl | ⟨h1, h2⟩, h3⟩)
    · exact .inl rfl
    · exact absurd h h3
    · exact .inr ⟨h1, h3⟩
  · rintro (rfl | ⟨h1, h2⟩)
    · exact .inl rfl
    · exact .inr ⟨.inr ⟨h1, by rw [h]; exact h2⟩, h2⟩
end Go.Proofs.Ytckkmmdibgoajaa
set_option linter.unusedVariables false
set_option linter.unusedSimpArgs false
namespace Go.Proofs.Ytckkmmdibgoajaa
open Go.RowKit
theorem tdiv_two {x : Int} (h : i64R x) : -9223372036854775808 ≤ x.tdiv 2 ∧ x.tdiv 2 ≤ 9223372036854775807 := by
  have h1 := h.1
  have h2 := h.2
  rcases Int.le_total 0 x with h0 | h0
  · rw [Int.tdiv_eq_ediv_of_nonneg h0]; omega
  · obtain ⟨y, rfl⟩ : ∃ y, x = -y := ⟨-x, by omega⟩
    rw [Int.neg_tdiv, Int.tdiv_eq_ediv_of_nonneg (by omega)]; omega
theorem wrap_back {v b : Int} (hv : i64R v) : IntKind.i64.wrap (IntKind.i64.wrap (v + b) + IntKind.i64.wrap (-b)) = v := by
  have h1 := hv.1
  have h2 := hv.2
  rw [IntKind.wrap_i64, IntKind.wrap_i64, IntKind.wrap_i64]
  omega
theorem i64_wrap (x : Int) : i64R (IntKind.i64.wrap x) := by
  rw [IntKind.wrap_i64]
  exact ⟨by omega, by omega⟩
theorem get_wf {l : List En} (hu : Up l) (hw : WfL l) (k : Int) : i64R ((getE l k).elim 0 (·.val)) := by
  cases hg : getE l k with
  | none => exact ⟨by decide, by decide⟩
  | some e => exact (hw e ((getE_iff hu k e).1 hg).1).2
set_option maxHeartbeats 16000000 in
set_option maxRecDepth 100000 in
theorem uinc_walk (I : AImpl) (hchk : CheckSpec) (K : UpdImpl I) {a : Option Addr} {n c : Nat} {raw : List En} {tilt key by' at_ : Int} {w : World} (hE : EnsAt w a raw) (hn : raw.length = n) (hnm : n ≤ 9223372036854775807) (ht0 : 0 ≤ tilt) (ht1 : tilt < 18446744073709551616) (hkey : i64R key) (hby : i64R by') (hat : i64R at_) :
    Calls Try.prog 3 #[.slice a n c, .int .u64 tilt, .int .i64 key, .int .i64 by', .int .i64 at_] w (Calm w (.bool true)) := by
  have HKEY : Hid (i64R key ∧ i64R by') := ⟨hkey, hby⟩
  clear hkey hby
  have HK := Lib.hid K
  have HCHK := Lib.hid hchk
  have HAT := Lib.hid hat
  have HWF : Hid (∀ y ∈ listE raw 100, i64R y.key ∧ i64R y.val) := fun y hy => hE.wf y (listE_mem hy)
  have HL := Lib.hid (list_any (c := c) (k := 100) hE hn hnm (by decide))
  have HT : Hid (0 ≤ tilt ∧ tilt < 18446744073709551616) := ⟨ht0, ht1⟩
  have HUP := Lib.hid (listE_up raw 100)
  have HLEN := Lib.hid (listE_len raw 100)
  clear K hchk hE hn hnm ht0 ht1 hat
  go_enter Try.func3, Try.ntmps3
  go_wp2_with fail
  refine HL.out.mono ?_
  rintro en w1 ⟨a1, c1, rfl, hr1, hb1⟩
  have HR1 := Lib.hid hr1
  have HB1 := Lib.hid hb1
  clear hr1 hb1 HL
  generalize listE raw 100 = l at HUP HLEN HR1 HWF ⊢
  obtain ⟨L, hL⟩ : ∃ L, l.length = L := ⟨_, rfl⟩
  rw [hL] at HLEN HR1 ⊢
  have HLL := Lib.hid hL
  have hLi : (L : Int) ≤ 100 := by have := HLEN.out; omega
  have HE1 := Lib.hid (ens_row hL HR1.out HWF.out)
  have HC1 := Lib.hid (row_caps HR1.out)
  clear hL
  go_wp2_with fail
  refine (grow_any I (sp := 200) (m := L + 200) HE1.out HLL.out HC1.out.1 HC1.out.2 rfl (by omega) (by have := HLEN.out; omega) HT.out.1 HT.out.2).mono ?_
  rintro en w3 ⟨p, A, ri, t, F, rfl, hg⟩
  obtain ⟨pa, rfl⟩ := I.ptr hg.is
  have HTR := Lib.hid (hg.planted.tree HUP.out)
  have HPL := Lib.hid hg.planted
  have HS3 := Lib.hid (Scn.init hg HB1.out HR1.out)
  have hfr : A.σ.free.length = 200 := by
    have h := hg.planted.free
    rw [HLL.out] at h
    have h2 : (Ar.init (L + 200)).σ.free.length = L + 200 := by show (List.range' 1 (L + 200)).length = _; simp
    omega
  have HFR : Hid (A.σ.free.length = 200 ∧ A.σ.cap = L + 200) := ⟨hfr, hg.planted.kept.cap⟩
  have HPI : Hid (pls (fun _ => 0) ri = hof [ri]) := by show _ = _; have := hof_pls [] ri; rw [hof_nil] at this; exact this
  have HHM : Hid (∀ j, pls (fun _ => 0) ri j ≤ 1048000) := fun j => by rw [pls_at]; split <;> omega
  have HRI : Hid (ri < 4294967296) := HTR.out.idx
  clear hg HR1 HE1 HC1 HT hfr HB1
  go_wp2_with fail
  refine (awake14_any I HK.out w3).mono ?_
  rintro en w4 ⟨rfl, hb4⟩
  have HS4 := Lib.hid (HS3.out.calm hb4)
  clear hb4 HS3
  go_upto_region 5 with fail
  go_cut [46] from 39 to 45 (fun sc wx => ∃ bb : Bool, sc = .bool bb ∧ (bb = true → 0 < L) ∧ w4 = wx)
  case first =>
    by_cases hL0 : L = 0
    · have hl0 : (L : Int) = 0 := by omega
      have hd : decide ((L : Int) > 0) = false := decide_eq_false (by omega)
      have hd2 : decide ((0 : Int) < (L : Int)) = false := decide_eq_false (by omega)
      have hd3 : ¬ 0 < L := by omega
      clear hL0
      go_wp2_with fail
      go_meet
      exact ⟨false, rfl, (fun h => by cases h), rfl⟩
    · have hd : decide ((L : Int) > 0) = true := decide_eq_true (by omega)
      have hd2 : decide ((0 : Int) < (L : Int)) = true := decide_eq_true (by omega)
      have hd3 : 0 < L := by omega
      obtain ⟨bb, hbb⟩ : ∃ bb : Bool, (at_.tmod 2 == 0) = bb := ⟨_, rfl⟩
      clear hL0
      go_wp2_with fail
      go_meet
      exact ⟨bb, by rw [← hbb], fun _ => hd3, rfl⟩
  case' rest =>
    obtain ⟨bb, rfl, hbb, rfl⟩ := hcut
    have HBBL := Lib.hid hbb
    clear hbb
    go_upto_if 46 with fail
    go_cut [2] from 47 to 55 (fun s2 wx => ∃ k : Int, s2 = .int .i64 k ∧ i64R k ∧ w4 = wx)
    case first =>
      cases bb with
      | false =>
        go_wp2_with fail
        go_meet
        exact ⟨key, rfl, HKEY.out.1, rfl⟩
      | true =>
        have hL0 := HBBL.out rfl
        have hli : (0 : Int) < (L : Int) := by omega
        obtain ⟨T1, hT⟩ : ∃ T, at_.tdiv 2 = T := ⟨_, rfl⟩
        have hT1 : -9223372036854775808 ≤ T1 ∧ T1 ≤ 9223372036854775807 := by rw [← hT]; exact tdiv_two HAT.out
        have hTw : IntKind.i64.wrap T1 = T1 := by rw [IntKind.wrap_i64]; omega
        have hx6 := Int.emod_nonneg T1 (b := (L : Int)) (by omega)
        have hx7 := Int.emod_lt_of_pos T1 (b := (L : Int)) (by omega)
        obtain ⟨j, hj⟩ := Int.eq_ofNat_of_zero_le hx6
        have hjL : j < L := by omega
        have HMX : Hid (∀ wx, Calls Try.prog 11 #[.int .i64 T1, .int .i64 (L : Int)] wx (fun e w' => e = .returned (.int .i64 (j : Int)) ∧ wx = w')) := fun wx => (mod_any T1 (L : Int) wx hT1.1 hT1.2 (by omega) (by omega)).mono fun e w' ⟨h1, h2⟩ => ⟨by rw [h1, hj], h2⟩
        obtain ⟨x, he⟩ : ∃ e, l[j]? = some e := ⟨_, List.getElem?_eq_getElem (by have := HLL.out; omega)⟩
        have HEW := Lib.hid (HWF.out x (List.mem_of_getElem? he))
        obtain ⟨b, off, rfl, hb, c0, c1'⟩ := (ens_row (w := w4) (B := w.heap.size) (c := c1) HLL.out (HS4.out.rows _ (List.mem_singleton.2 rfl)) HWF.out).cell j x he
        have hji : (j : Int) < (L : Int) := by omega
        have hj0 : (0 : Int) ≤ (j : Int) := by omega
        clear he hb hj hjL hx6 hx7 hL0 c1' hT1
        go_wp2_with (go_at_call 11; (try rw [hT]); refine (HMX.out _).mono ?_; rintro e wy ⟨rfl, rfl⟩)
        go_meet
        exact ⟨x.key, rfl, HEW.out.1, rfl⟩
    case' rest =>
      obtain ⟨k, rfl, hk, rfl⟩ := hcut
      have HKV := Lib.hid hk
      clear hk HBBL
      have HENS : Hid (∀ {wx : World} {C : Ar} {rdx : Int} {rs' : List Row} {bs' : List (Nat × Obj)}, Scn I w.heap.size w wx (.pointer (some pa)) C rdx (rs' ++ [⟨31, 2, .slice a1 L c1, L, ensV l⟩]) bs' → EnsAt wx a1 l) := fun {wx C rdx rs' bs'} h => ens_row (B := w.heap.size) (c := c1) HLL.out (h.rows _ (List.mem_append_right _ (List.mem_singleton.2 rfl))) HWF.out
      go_wp2_with fail
      refine (get_any k (HENS.out (rs' := []) HS4.out) HLL.out (by have := HLEN.out; omega)).mono ?_
      rintro en w8 ⟨rfl, hw8⟩
      obtain rfl : w4 = w8 := hw8.symm
      obtain ⟨V, hV⟩ : ∃ V, (getE l k).elim (0 : Int) (·.val) = V := ⟨_, rfl⟩
      obtain ⟨Z, hZ⟩ : ∃ Z, (getE l k).isSome = Z := ⟨_, rfl⟩
      rw [hV, hZ]
      obtain ⟨W, hWv⟩ : ∃ W, IntKind.i64.wrap (V + by') = W := ⟨_, rfl⟩
      have hVR : i64R V := by rw [← hV]; exact get_wf HUP.out HWF.out k
      have hiw : incV l k by' = W := by unfold incV; rw [hV, hWv]
      have HW : Hid (incV l k by' = W ∧ i64R W ∧ i64R V ∧ IntKind.i64.wrap (W + IntKind.i64.wrap (-by')) = V) := ⟨hiw, by rw [← hWv]; exact i64_wrap _, hVR, by rw [← hWv]; exact wrap_back hVR⟩
      obtain ⟨NB, hNB⟩ : ∃ NB, IntKind.i64.wrap (-by') = NB := ⟨_, rfl⟩
      have HNB : Hid (i64R NB ∧ IntKind.i64.wrap (W + NB) = V) := ⟨by rw [← hNB]; exact i64_wrap _, by rw [← hNB]; exact HW.out.2.2.2⟩
      clear hV hZ hVR hiw
      have hins := ins_max (n := (l.length : Int)) (by omega) (by rw [HLL.out]; omega)
      go_wp2_with fail
      refine (HS4.out.mut fun F hI => HK.out.increase k by' _ hI HPL.out.inv HHM.out HTR.out HWF.out (by decide) (by decide) HKV.out HKEY.out.2).mono ?_
      rintro en w5 ⟨B, rd5, ⟨h50, h51, hq⟩, hs5⟩
      have HS5 := Lib.hid hs5
      have hub := upd_max (n := l.length) (by rw [HLL.out]; omega)
      have HRD5 : Hid (0 ≤ rd5 ∧ rd5 ≤ 5000) := ⟨h50, by omega⟩
      clear hs5 HS4 h50 h51 hub
      rcases hq with ⟨-, q2, -⟩ | ⟨-, j, u, rfl, hj⟩
      · exact absurd q2 (by have := HFR.out; omega)
      rw [HW.out.1] at hj ⊢
      have HJ := Lib.hid hj
      have HTJ := Lib.hid (hj.tree (insE_up ⟨k, W⟩ HUP.out))
      have HWJ : Hid (WfL (insE l ⟨k, W⟩)) := insE_wf HWF.out ⟨HKV.out, HW.out.2.1⟩
      have hlj : (insE l ⟨k, W⟩).length ≤ L + 1 := by have := insE_len l ⟨k, W⟩; rw [HLL.out] at this; exact this
      have hiv : B.Inv [] (hof [ri, j]) := by have := hj.inv; rw [HPI.out, hof_pls] at this; exact this
      have hus := hiv.used hj.agg (ts := [t, u]) (fun x hx => by
        simp at hx
        rcases hx with rfl | rfl
        · exact ⟨t, by simp, HPL.out.sub.kept hj.kept⟩
        · exact ⟨u, by simp, hj.sub⟩)
      have HFB : Hid (99 ≤ B.σ.free.length) := by
        show _ ≤ _
        simp at hus
        have h1 := HTR.out.size
        have h2 := HTJ.out.size
        have h3 := hj.kept.cap
        have h4 := HFR.out.2
        rw [HLL.out] at h1
        omega
      have HHJ : Hid (∀ x, pls (pls (fun _ => 0) ri) j x ≤ 1048000) := fun x => by rw [pls_at, pls_at]; split <;> split <;> omega
      have HJI : Hid (j < 4294967296) := HTJ.out.idx
      have HLJ := Lib.hid hlj
      have hins2 := ins_max (n := ((insE l ⟨k, W⟩).length : Int)) (by omega) (by omega)
      have hi2 : incV (insE l ⟨k, W⟩) k NB = V := by
        unfold incV
        have h1 : getE (insE l ⟨k, W⟩) k = some ⟨k, W⟩ := get_ins HUP.out ⟨k, W⟩
        rw [h1]
        exact HNB.out.2
      have HI2 := Lib.hid hi2
      have HINS2 := Lib.hid hins2
      clear hj hiv hus hlj hi2 hins2 hins
      go_wp2_with fail
      refine (HS5.out.mut fun F hI => HK.out.increase k NB w5 hI HJ.out.inv HHJ.out HTJ.out HWJ.out HRD5.out.1 (by have := HRD5.out; omega) HKV.out HNB.out.1).mono ?_
      rintro en w6 ⟨C, rd6, ⟨h60, h61, hq⟩, hs6⟩
      have HS6 := Lib.hid hs6
      clear hs6 HS5 h60 h61
      rcases hq with ⟨-, q2, -⟩ | ⟨-, m, u', rfl, hm⟩
      · exact absurd q2 (by have := HFB.out; have := HINS2.out; omega)
      rw [HI2.out] at hm ⊢
      rw [show insE (insE l ⟨k, W⟩) ⟨k, V⟩ = insE l ⟨k, V⟩ from ins_same HUP.out rfl] at hm
      have HTM := Lib.hid (hm.tree (insE_up ⟨k, V⟩ HUP.out))
      have HTJ2 := Lib.hid (HTJ.out.kept hm.kept hm.inv hm.agg)
      have HIV : Hid (C.Inv [] (hof [ri, j, m])) := by have := hm.inv; rw [HPI.out, hof_pls, hof_pls] at this; exact this
      have HCG : Hid (C.Agg) := hm.agg
      have HON : Hid (∀ z ∈ [ri, j, m], z = 0 ∨ C.σ.on z = true) := fun z hz => by
        simp at hz
        rcases hz with rfl | rfl | rfl
        · exact HTR.out.sub.idx.imp_right fun h => hm.kept.on _ (HJ.out.kept.on _ h)
        · exact HTJ2.out.sub.idx
        · exact hm.sub.idx
      have HMI : Hid (m < 4294967296) := HTM.out.idx
      obtain ⟨N, hN⟩ : ∃ N, C.σ.cap = N := ⟨_, rfl⟩
      obtain ⟨FC, hFC⟩ : ∃ f, C.σ.free.length = f := ⟨_, rfl⟩
      have HN : Hid (C.σ.cap = N ∧ C.σ.free.length = FC) := ⟨hN, hFC⟩
      have HLI : Hid (l.length ≤ 1000000) := by show _ ≤ _; rw [HLL.out]; omega
      have HINS : Hid (∀ (v : Int) (LN : Nat), i64R v → (insE l ⟨k, v⟩).length = LN → ∀ wx, EnsAt wx a1 l → Calls Try.prog 14 #[.slice a1 L c1, .agg #[.int .i64 k, .int .i64 v]] wx (fun e w' => ∃ a c, e = .returned (.slice a LN c) ∧ w'.ownsRow wx.heap.size 31 2 (.slice a LN c) LN (ensV (insE l ⟨k, v⟩)) ∧ Below wx.heap.size wx w')) := fun v LN hv hLN wx h => by
        have h1 := insert_any (c := c1) ⟨k, v⟩ h ⟨HKV.out, hv⟩ HLI.out
        rw [HLL.out] at h1
        refine h1.mono ?_
        rintro e w' ⟨a', c', he, hr, hb⟩
        rw [hLN] at he hr
        exact ⟨a', c', he, hr, hb⟩
      obtain ⟨LV, hLV⟩ : ∃ n, (insE l ⟨k, V⟩).length = n := ⟨_, rfl⟩
      obtain ⟨LW, hLW⟩ : ∃ n, (insE l ⟨k, W⟩).length = n := ⟨_, rfl⟩
      have HLV : Hid ((insE l ⟨k, V⟩).length = LV ∧ LV ≤ 65536) := ⟨hLV, by rw [← hLV]; have := insE_len l ⟨k, V⟩; rw [HLL.out] at this; have := HLEN.out; omega⟩
      have HLW : Hid ((insE l ⟨k, W⟩).length = LW ∧ LW ≤ 65536) := ⟨hLW, by rw [← hLW]; have := HLJ.out; have := HLEN.out; omega⟩
      have HWV : Hid (∀ y ∈ insE l ⟨k, V⟩, i64R y.key ∧ i64R y.val) := insE_wf HWF.out ⟨HKV.out, HW.out.2.2.1⟩
      clear hm hN hFC hLV hLW HJ HTJ
      go_wp2_with fail
      refine (HINS.out V LV HW.out.2.2.1 HLV.out.1 w6 (HENS.out (rs' := []) HS6.out)).mono ?_
      rintro en w7 ⟨av, cv, rfl, hr7, hb7⟩
      have HS7 := Lib.hid (HS6.out.row hb7 hr7)
      have hww : (W == W) = true := by simp
      have hvv : (V == V) = true := by simp
      clear hr7 hb7 HS6
      go_wp2_with fail
      refine HS7.out.dump.mono ?_
      rintro en w8 ⟨da, dc, db, dd, rfl, hs8, -⟩
      rw [HN.out.1, HN.out.2] at hs8 ⊢
      have HS8 := Lib.hid hs8
      clear hs8 HS7
      go_wp2_with fail
      refine (HINS.out W LW HW.out.2.1 HLW.out.1 w8 (HENS.out (rs' := [_, _, _]) HS8.out)).mono ?_
      rintro en w9 ⟨aw, cw, rfl, hr9, hb9⟩
      have HS9 := Lib.hid (HS8.out.row hb9 hr9)
      clear hr9 hb9 HS8
      go_wp2_with fail
      refine (refTree_any HIV.out HN.out.1 (HS9.out.slots_of (c := dc) HIV.out HN.out.1 (by simp)) HTJ2.out (ens_row (B := w.heap.size) (c := cw) HLW.out.1 (HS9.out.rows _ (List.mem_cons_self ..)) HWJ.out) HLW.out.1 HLW.out.2).mono ?_
      rintro en w10 ⟨rfl, hb10⟩
      have HS10 := Lib.hid (HS9.out.calm hb10)
      clear hb10 HS9
      go_wp2_with fail
      refine HS10.out.dump.mono ?_
      rintro en w11 ⟨ea, ec, eb, ed, rfl, hs11, -⟩
      rw [HN.out.1, HN.out.2] at hs11 ⊢
      have HS11 := Lib.hid hs11
      clear hs11 HS10
      go_wp2_with fail
      refine (refTree_any HIV.out HN.out.1 (HS11.out.slots_of (c := ec) HIV.out HN.out.1 (by simp)) HTM.out (ens_row (B := w.heap.size) (c := cv) HLV.out.1 (HS11.out.rows ⟨31, 2, .slice av LV cv, LV, ensV (insE l ⟨k, V⟩)⟩ (by simp)) HWV.out) HLV.out.1 HLV.out.2).mono ?_
      rintro en w12 ⟨rfl, hb12⟩
      have HS12 := Lib.hid (HS11.out.calm hb12)
      clear hb12 HS11
      go_wp2_with fail
      refine ((HS12.out.box _ _).sound HCHK.out HIV.out HCG.out (u3_at _ _ ri j m HRI.out HJI.out HMI.out) (L := 3) rfl (by decide) HON.out).mono ?_
      rintro en w13 ⟨rfl, hb13⟩
      have HB13 := Lib.hid (((HS12.out.box #[.int .u32 (ri : Int), .int .u32 (j : Int), .int .u32 (m : Int)] 26).calm hb13).below)
      clear hb13 HS12
      go_wp2_with fail
      go_ret
      exact ⟨rfl, HB13.out⟩
end Go.Proofs.Ytckkmmdibgoajaa
