/- Of the proof of VUpdateInsertsP: Scene, RefRsv, UpPl0, UpCon, LawUpIns. -/
import Derived.Test.YtckkmmdibgoajaaGreatV1
import Derived.Test.YtckkmmdibgoajaaGreatV2
import Derived.Test.YtckkmmdibgoajaaGreatV3
import Derived.Test.YtckkmmdibgoajaaGreatV4
import Derived.Test.YtckkmmdibgoajaaGreatV5
import Derived.Test.YtckkmmdibgoajaaGreatV6
import Derived.Test.YtckkmmdibgoajaaGreatV10
import Derived.Test.YtckkmmdibgoajaaGreatV11
import Derived.Test.YtckkmmdibgoajaaGreatV12
import Derived.Test.YtckkmmdibgoajaaGreatV13
import Derived.Test.YtckkmmdibgoajaaGreatV16
import Derived.Deep.DeepCutAuto
import Derived.Deep.RegionHeld3
import Derived.Deep.QuietTactic
set_option linter.unusedVariables false
set_option linter.unusedSimpArgs false
namespace Go.Proofs.YtckkmmdibgoajaaGreat
open Go.RowKit
section
variable {I : AImpl} {B : Nat} {w0 w w' : World} {p : Value} {A : Ar} {rd rd' : Int} {rs : List Row} {bs : List (Nat × Obj)}
/-- a box of two numbers is written -/
theorem Scn.set2 {g : Nat} {x0 y0 : Value} {t : TypeId} (h : Scn I B w0 w p A rd rs ((g, .cells #[x0, y0] t (0, 0)) :: bs)) (x y : Value) :
    Scn I B w0 ((w.setCell ⟨g, 0, none⟩ x).setCell ⟨g, 1, none⟩ y) p A rd rs ((g, .cells #[x, y] t (0, 0)) :: bs) := by
  refine h.set ?_ ⟨rfl, rfl, rfl, by simp [World.setCell], fun k hk => by rw [heap_setCell_other _ _ _ _ hk, heap_setCell_other _ _ _ _ hk]⟩
  rw [heap_setCell_same _ g 1 _ _ _ (heap_setCell_same w g 0 _ _ _ (h.boxes (g, .cells #[x0, y0] t (0, 0)) (by simp)).2)]; rfl
end
end Go.Proofs.YtckkmmdibgoajaaGreat
set_option linter.unusedVariables false
set_option linter.unusedSimpArgs false
namespace Go.Proofs.YtckkmmdibgoajaaGreat
open Go.RowKit
theorem refInsert_any (n : Int) (w : World) (hn : in64 n) : Calls Tryz.prog 9 #[.int .i64 n] w (Calm w (.int .i64 (insI n))) := by
  have HC := Lib.hid (refNeed_any n 0 0 1 0 4 w ⟨hn, in0, in0⟩ ⟨by decide, by decide⟩ (fun _ _ _ => ⟨by decide, by decide⟩) ⟨by decide, by decide⟩)
  clear hn
  go_enter Tryz.func9, Tryz.ntmps9
  go_wp2_with fail
  refine HC.out.mono ?_
  rintro e w1 ⟨rfl, hb1⟩
  have HB := Lib.hid hb1
  clear hb1
  go_wp2_with fail
  go_ret
  exact ⟨rfl, HB.out⟩
end Go.Proofs.YtckkmmdibgoajaaGreat
set_option linter.unusedVariables false
set_option linter.unusedSimpArgs false
namespace Go.Proofs.YtckkmmdibgoajaaGreat
theorem getE_found0 {l : List En} (hu : Up l) {e : En} (hm : e ∈ l) : getE l e.key = some e := by
  cases hg : getE l e.key with
  | none =>
    exfalso
    unfold getE at hg
    have := List.find?_eq_none.1 hg e hm
    simp at this
  | some e' =>
    unfold getE at hg
    have h1 := List.mem_of_find?_eq_some hg
    have h2 : e'.key = e.key := by simpa using List.find?_some hg
    obtain ⟨i, hi, rfl⟩ := List.mem_iff_getElem.1 hm
    obtain ⟨j, hj, rfl⟩ := List.mem_iff_getElem.1 h1
    rcases Nat.lt_trichotomy i j with h | h | h
    · have := List.pairwise_iff_getElem.1 hu i j hi hj h; omega
    · subst h; rfl
    · have := List.pairwise_iff_getElem.1 hu j i hj hi h; omega
theorem getE_iff {l : List En} (hu : Up l) (k : Int) (e : En) : getE l k = some e ↔ e ∈ l ∧ e.key = k := by
  constructor
  · intro h
    unfold getE at h
    exact ⟨List.mem_of_find?_eq_some h, by simpa using List.find?_some h⟩
  · rintro ⟨h, rfl⟩
    exact getE_found0 hu h
end Go.Proofs.YtckkmmdibgoajaaGreat
set_option linter.unusedVariables false
set_option linter.unusedSimpArgs false
namespace Go.Proofs.YtckkmmdibgoajaaGreat
open Go.RowKit
theorem ins_max {n : Int} (h0 : 0 ≤ n) (h1 : n ≤ 151) : insI n ≤ 64 ∧ 0 ≤ insI n := by
  have h3 := xhI_max (n := n + 0 + 0 + 1) (by omega) (by omega)
  unfold insI needI
  have hv : vld n ∧ vld 0 ∧ vld 0 := by unfold vld; omega
  rw [if_pos hv]
  omega
end Go.Proofs.YtckkmmdibgoajaaGreat
set_option linter.unusedVariables false
set_option linter.unusedSimpArgs false
namespace Go.Proofs.YtckkmmdibgoajaaGreat
open Go.RowKit
theorem Scn.set1' {I : AImpl} {B : Nat} {w0 w : World} {p : Value} {A : Ar} {rd : Int} {rs : List Row} {bs : List (Nat × Obj)} {g : Nat} {x0 y0 : Value} {t : TypeId} (h : Scn I B w0 w p A rd rs ((g, .cells #[x0, y0] t (0, 0)) :: bs)) (x : Value) :
    Scn I B w0 (w.setCell ⟨g, 0, none⟩ x) p A rd rs ((g, .cells #[x, y0] t (0, 0)) :: bs) :=
  h.set (by rw [heap_setCell_same w g 0 _ _ _ (h.boxes (g, .cells #[x0, y0] t (0, 0)) (by simp)).2]; rfl) ⟨rfl, rfl, rfl, by simp [World.setCell], fun k hk => heap_setCell_other _ _ _ _ hk⟩
set_option maxHeartbeats 16000000 in
set_option maxRecDepth 100000 in
theorem uins_walk (I : AImpl) (hchk : CheckSpec) (K : UpdImpl I) {a : Option Addr} {n c : Nat} {raw : List En} {tilt at_ free ek ev : Int} {w : World} (hE : EnsAt w a raw) (hn : raw.length = n) (hnm : n ≤ 9223372036854775807) (ht0 : 0 ≤ tilt) (ht1 : tilt < 18446744073709551616) (hek : i64R ek) (hev : i64R ev) (hat : i64R at_) (hf0 : 0 ≤ free) (hf1 : free < 65536) :
    Calls Tryz.prog 3 #[.slice a n c, .int .u64 tilt, .agg #[.int .i64 ek, .int .i64 ev], .int .i64 at_, .int .u16 free] w (Calm w (.bool true)) := by
  have HEK : Hid (i64R ek ∧ i64R ev) := ⟨hek, hev⟩
  clear hek hev
  have HK := Lib.hid K
  have HCHK := Lib.hid hchk
  have HAT := Lib.hid hat
  have HF : Hid (0 ≤ free ∧ free < 65536) := ⟨hf0, hf1⟩
  have HWF : Hid (∀ y ∈ listE raw 150, i64R y.key ∧ i64R y.val) := fun y hy => hE.wf y (listE_mem hy)
  have HL := Lib.hid (list_any (c := c) (k := 150) (hE.below (below_newL w (.cells #[.int .i64 ek, .int .i64 ev] 25))) hn hnm (by decide))
  have HT : Hid (0 ≤ tilt ∧ tilt < 18446744073709551616) := ⟨ht0, ht1⟩
  have HUP := Lib.hid (listE_up raw 150)
  have HLEN := Lib.hid (listE_len raw 150)
  clear K hchk hE hn hnm ht0 ht1 hat hf0 hf1
  have HBA0 : Hid (Below w.heap.size w (w.alloc (.cells #[.int .i64 ek, .int .i64 ev] 25)) ∧ (w.alloc (.cells #[.int .i64 ek, .int .i64 ev] 25)).heap[w.heap.size]? = some (.cells #[.int .i64 ek, .int .i64 ev] 25 (0, 0))) := ⟨below_newL _ _, heap_alloc_new _ _⟩
  go_enter Tryz.func3, Tryz.ntmps3
  go_upto_region 1 with fail
  generalize w.alloc (.cells #[.int .i64 ek, .int .i64 ev] 25) = wa at HL HBA0 ⊢
  obtain ⟨ge, hge⟩ : ∃ g, w.heap.size = g := ⟨_, rfl⟩
  have HBA : Hid (Below w.heap.size w wa ∧ w.heap.size ≤ ge ∧ wa.heap[ge]? = some (.cells #[.int .i64 ek, .int .i64 ev] 25 (0, 0))) := ⟨HBA0.out.1, Nat.le_of_eq hge, by rw [← hge]; exact HBA0.out.2⟩
  (try rw [hge])
  clear hge HBA0
  go_wp2_with fail
  refine HL.out.mono ?_
  rintro en w1 ⟨a1, c1, rfl, hr1, hb1⟩
  have HR1 := Lib.hid hr1
  have HB1 := Lib.hid hb1
  clear hr1 hb1 HL
  generalize listE raw 150 = l at HUP HLEN HR1 HWF ⊢
  obtain ⟨L, hL⟩ : ∃ L, l.length = L := ⟨_, rfl⟩
  rw [hL] at HLEN HR1 ⊢
  have HLL := Lib.hid hL
  have hLi : (L : Int) ≤ 150 := by have := HLEN.out; omega
  have HE1 := Lib.hid (ens_row hL HR1.out HWF.out)
  have HC1 := Lib.hid (row_caps HR1.out)
  clear hL
  have hnd := ins_max (n := (L : Int)) (by omega) (by omega)
  obtain ⟨NE, hNE⟩ : ∃ NE, insI (L : Int) = NE := ⟨_, rfl⟩
  rw [hNE] at hnd
  have HNE : Hid (insI (L : Int) = NE ∧ 0 ≤ NE ∧ NE ≤ 64) := ⟨hNE, hnd.2, hnd.1⟩
  clear hnd hNE
  go_wp2_with fail
  refine (refInsert_any (L : Int) w1 ⟨by omega, by omega⟩).mono ?_
  rintro en w2 ⟨rfl, hb2⟩
  rw [HNE.out.1]
  have HB2 := Lib.hid hb2
  clear hb2
  go_wp2_with fail
  refine (spare14_any free NE w2 HF.out.1 HF.out.2 HNE.out.2.1 (by have := HNE.out; omega)).mono ?_
  rintro en w2' ⟨sp, rfl, hsp, rfl⟩
  have hspi : (sp : Int) ≤ 72 := by have := HNE.out; omega
  have hsp0 : (0 : Int) ≤ (sp : Int) := by omega
  have HSP1 : Hid ((1 : Int) + (sp : Int) = ((sp + 1 : Nat) : Int)) := by show _ = _; omega
  clear hsp
  go_wp2_with fail
  rw [HSP1.out]
  refine (grow_any I (sp := sp + 1) (m := L + (sp + 1)) (HE1.out.below HB2.out) HLL.out HC1.out.1 HC1.out.2 rfl (by omega) (by have := HLEN.out; omega) HT.out.1 HT.out.2).mono ?_
  rintro en w3 ⟨p, A, ri, t, F, rfl, hg⟩
  obtain ⟨pa, rfl⟩ := I.ptr hg.is
  have HTR := Lib.hid (hg.planted.tree HUP.out)
  have HPL := Lib.hid hg.planted
  have HS3 := Lib.hid (Scn.init3 (g := ge) (o := .cells #[.int .i64 ek, .int .i64 ev] 25 (0, 0)) hg.is hg.foot hg.below (HB1.out.trans (HB2.out.mono HB1.out.size)) HBA.out.1 (row_below HR1.out HB2.out) HBA.out.2.1 HBA.out.2.2)
  have hfr : A.σ.free.length = sp + 1 := by
    have h := hg.planted.free
    rw [HLL.out] at h
    have h2 : (Ar.init (L + (sp + 1))).σ.free.length = L + (sp + 1) := by show (List.range' 1 (L + (sp + 1))).length = _; simp
    omega
  have HFR : Hid (A.σ.free.length = sp + 1 ∧ A.σ.cap = L + (sp + 1) ∧ sp ≤ 72) := ⟨hfr, hg.planted.kept.cap, by omega⟩
  have HPI : Hid (pls (fun _ => 0) ri = hof [ri]) := by show _ = _; have := hof_pls [] ri; rw [hof_nil] at this; exact this
  have HHM : Hid (∀ j, pls (fun _ => 0) ri j ≤ 1048000) := fun j => by rw [pls_at]; split <;> omega
  have HRI : Hid (ri < 4294967296) := HTR.out.idx
  clear hg HR1 HE1 HC1 HT hfr HB1 HB2 HSP1 hspi hsp0
  go_wp2_with fail
  refine (awake14_any I HK.out w3).mono ?_
  rintro en w4 ⟨rfl, hb4⟩
  have HS4 := Lib.hid (HS3.out.calm hb4)
  clear hb4 HS3
  go_upto_region 6 with fail
  go_cut [55] from 48 to 54 (fun sc wx => ∃ bb : Bool, sc = .bool bb ∧ (bb = true → 0 < L) ∧ w4 = wx)
  case first =>
    by_cases hL0 : L = 0
    · have hl0 : (L : Int) = 0 := by omega
      have hd : decide ((L : Int) > 0) = false := decide_eq_false (by omega)
      have hd2 : decide ((0 : Int) < (L : Int)) = false := decide_eq_false (by omega)
      have hd3 : ¬ 0 < L := by omega
      clear hL0
      go_wp2_with fail
      go_meet
      exact ⟨false, rfl, (fun h => by cases h), rfl⟩
    · have hd : decide ((L : Int) > 0) = true := decide_eq_true (by omega)
      have hd2 : decide ((0 : Int) < (L : Int)) = true := decide_eq_true (by omega)
      have hd3 : 0 < L := by omega
      obtain ⟨bb, hbb⟩ : ∃ bb : Bool, (at_.tmod 3 != 0) = bb := ⟨_, rfl⟩
      clear hL0
      go_wp2_with fail
      go_meet
      exact ⟨bb, by rw [← hbb], fun _ => hd3, rfl⟩
  case' rest =>
    obtain ⟨bb, rfl, hbb, rfl⟩ := hcut
    have HBBL := Lib.hid hbb
    clear hbb
    go_upto_if 55 with fail
    go_cut [16] from 56 to 71 (fun _ wx => ∃ k v : Int, i64R k ∧ i64R v ∧ Scn I w.heap.size w wx (.pointer (some pa)) A 0 [⟨25, 2, .slice a1 L c1, L, ensV l⟩] [(ge, .cells #[.int .i64 k, .int .i64 v] 25 (0, 0))])
    case first =>
      cases bb with
      | false =>
        go_wp2_with fail
        go_meet
        exact ⟨ek, ev, HEK.out.1, HEK.out.2, HS4.out⟩
      | true =>
        have hL0 := HBBL.out rfl
        have hli : (0 : Int) < (L : Int) := by omega
        have hx6 := Int.emod_nonneg at_ (b := (L : Int)) (by omega)
        have hx7 := Int.emod_lt_of_pos at_ (b := (L : Int)) (by omega)
        obtain ⟨j, hj⟩ := Int.eq_ofNat_of_zero_le hx6
        have hjL : j < L := by omega
        have HMX : Hid (∀ wx, Calls Tryz.prog 13 #[.int .i64 at_, .int .i64 (L : Int)] wx (fun e w' => e = .returned (.int .i64 (j : Int)) ∧ wx = w')) := fun wx => (mod_any at_ (L : Int) wx HAT.out.1 HAT.out.2 (by omega) (by omega)).mono fun e w' ⟨h1, h2⟩ => ⟨by rw [h1, hj], h2⟩
        obtain ⟨x, he⟩ : ∃ e, l[j]? = some e := ⟨_, List.getElem?_eq_getElem (by have := HLL.out; omega)⟩
        have HEW := Lib.hid (HWF.out x (List.mem_of_getElem? he))
        obtain ⟨b, off, rfl, hb, c0, c1'⟩ := (ens_row (w := w4) (B := w.heap.size) (c := c1) HLL.out (HS4.out.rows _ (List.mem_singleton.2 rfl)) HWF.out).cell j x he
        have hji : (j : Int) < (L : Int) := by omega
        have hj0 : (0 : Int) ≤ (j : Int) := by omega
        have c2 : w4.cell? ⟨b, off + j * 2 + 1, none⟩ = some (.int .i64 x.val) := c1'
        have hs5 := HS4.out.box #[.int .i64 x.key, .int .i64 x.val] 25
        clear he hb hj hjL hx6 hx7 hL0 c1'
        go_upto_region 8 with (go_at_call 13; refine (HMX.out _).mono ?_; rintro e wy ⟨rfl, rfl⟩)
        have hgx : ge < w4.heap.size := HS4.out.lt (.inr ⟨_, List.mem_singleton.2 rfl, rfl⟩)
        generalize w4.alloc (.cells #[.int .i64 x.key, .int .i64 x.val] 25) = w5 at hs5 ⊢
        generalize w4.heap.size = gx at hs5 hgx ⊢
        obtain ⟨x0, x1, xf0, xf1⟩ := hs5.two (g := gx) (x := x.key) (y := x.val) (t := 25) (by simp)
        obtain ⟨e0, e1, ef0, ef1⟩ := hs5.two (g := ge) (x := ek) (y := ev) (t := 25) (by simp)
        have hne : ¬ gx = ge := by omega
        have hne2 : ¬ ge = gx := by omega
        have hs6 := (hs5.less (List.Sublist.refl _) (List.sublist_cons_self _ _))
        have HSA := Lib.hid (hs6.set1' (.int .i64 x.key))
        have HSB := Lib.hid (hs6.set2 (.int .i64 x.key) (.int .i64 x.val))
        clear c0 c2 hs5 hs6 hgx HS4
        obtain ⟨b1, hb1⟩ : ∃ b1 : Bool, (at_.tmod 3 == 1) = b1 := ⟨_, rfl⟩
        cases b1 with
        | false =>
          go_wp2_with fail
          go_meet
          exact ⟨x.key, ev, HEW.out.1, HEK.out.2, HSA.out⟩
        | true =>
          go_wp2_with fail
          go_meet
          exact ⟨x.key, x.val, HEW.out.1, HEW.out.2, HSB.out⟩
    case' rest =>
      rename World => w5
      obtain ⟨k, v, hk, hv, hs6⟩ := hcut
      have HKV : Hid (i64R k ∧ i64R v) := ⟨hk, hv⟩
      have HS6 := Lib.hid hs6
      clear hk hv hs6 HS4 HBBL
      have HENS : Hid (∀ {wx : World} {C : Ar} {rdx : Int} {rs' : List Row} {bs' : List (Nat × Obj)}, Scn I w.heap.size w wx (.pointer (some pa)) C rdx (rs' ++ [⟨25, 2, .slice a1 L c1, L, ensV l⟩]) bs' → EnsAt wx a1 l) := fun {wx C rdx rs' bs'} h => ens_row (B := w.heap.size) (c := c1) HLL.out (h.rows _ (List.mem_append_right _ (List.mem_singleton.2 rfl))) HWF.out
      obtain ⟨e0, e1, -, -⟩ := HS6.out.two (g := ge) (x := k) (y := v) (t := 25) (by simp)
      go_wp2_with fail
      clear e0 e1
      refine (get_any k (HENS.out (rs' := []) HS6.out) HLL.out (by have := HLEN.out; omega)).mono ?_
      rintro en w8 ⟨rfl, hw8⟩
      obtain rfl : w5 = w8 := hw8.symm
      obtain ⟨V, hV⟩ : ∃ V, (getE l k).elim (0 : Int) (·.val) = V := ⟨_, rfl⟩
      obtain ⟨Z, hZ⟩ : ∃ Z, (getE l k).isSome = Z := ⟨_, rfl⟩
      rw [hV, hZ]
      have HVZ : Hid ((getE l k).elim (0 : Int) (·.val) = V ∧ (getE l k).isSome = Z) := ⟨hV, hZ⟩
      clear hV hZ
      go_wp2_with fail
      refine HS6.out.dump.mono ?_
      rintro en w9 ⟨da, dc, db, dd, rfl, hs9, -⟩
      obtain ⟨N, hN⟩ : ∃ N, A.σ.cap = N := ⟨_, rfl⟩
      obtain ⟨M, hM⟩ : ∃ M, A.σ.free.length = M := ⟨_, rfl⟩
      rw [hN, hM] at hs9 ⊢
      have HNM : Hid (A.σ.cap = N ∧ A.σ.free.length = M ∧ (N : Int) ≤ 65536 ∧ (M : Int) ≤ 73 ∧ M = sp + 1) := ⟨hN, hM, by have := HFR.out; have := HLEN.out; omega, by have := HFR.out; omega, by have := HFR.out; omega⟩
      have HS9 := Lib.hid hs9
      clear hs9 hN hM HS6
      go_wp2_with fail
      refine HS9.out.reads.mono ?_
      rintro en w10 ⟨rfl, hs10⟩
      have hs11 := hs10.box #[.slice da N dc, .slice db M dd] 41
      clear hs10 HS9
      go_upto_region 13 with fail
      generalize w10.alloc (.cells #[.slice da N dc, .slice db M dd] 41) = w11 at hs11 ⊢
      generalize w10.heap.size = q at hs11 ⊢
      obtain ⟨rs, hrs⟩ : ∃ rs : List Row, rs = [⟨30, 1, .slice db M dd, M, u32s A.σ.free⟩, ⟨90, 11, .slice da N dc, N, slotsV A⟩, ⟨25, 2, .slice a1 L c1, L, ensV l⟩] := ⟨_, rfl⟩
      rw [← hrs] at hs11
      have HR0 : Hid ((⟨30, 1, .slice db M dd, M, u32s A.σ.free⟩ : Row) ∈ rs) := by show _ ∈ _; rw [hrs]; simp
      have HR1 : Hid ((⟨90, 11, .slice da N dc, N, slotsV A⟩ : Row) ∈ rs) := by show _ ∈ _; rw [hrs]; simp
      have HR2 : Hid ((⟨25, 2, .slice a1 L c1, L, ensV l⟩ : Row) ∈ rs) := by show _ ∈ _; rw [hrs]; simp
      have HS11 := Lib.hid hs11
      clear hs11 hrs HENS
      have HCEL : Hid (∀ {wx : World} {C : Ar} {rdx : Int} {rs' : List Row} {bs' : List (Nat × Obj)}, Scn I w.heap.size w wx (.pointer (some pa)) C rdx rs' (bs' ++ [(q, .cells #[.slice da N dc, .slice db M dd] 41 (0, 0)), (ge, .cells #[.int .i64 k, .int .i64 v] 25 (0, 0))]) → wx.cell? ⟨q, 0, none⟩ = some (.slice da N dc) ∧ wx.cell? ⟨q, 1, none⟩ = some (.slice db M dd) ∧ wx.cell? ⟨ge, 0, none⟩ = some (.int .i64 k) ∧ wx.cell? ⟨ge, 1, none⟩ = some (.int .i64 v)) := fun {wx C rdx rs' bs'} h => by
        obtain ⟨q0, q1⟩ := two_cells (h.boxes (q, .cells #[.slice da N dc, .slice db M dd] 41 (0, 0)) (by simp)).2
        obtain ⟨e0, e1, -, -⟩ := h.two (g := ge) (x := k) (y := v) (t := 25) (by simp)
        exact ⟨q0, q1, e0, e1⟩
      obtain ⟨q0, q1, e0, e1⟩ := HCEL.out (bs' := []) HS11.out
      go_wp2_with fail
      clear q0 q1 e0 e1
      refine (HS11.out.mut fun F hI => HK.out.insert ⟨k, v⟩ w11 hI HPL.out.inv HHM.out HTR.out HWF.out (by decide) (by decide) HKV.out.1 HKV.out.2).mono ?_
      rintro en w12 ⟨B, rd, ⟨h40, h41, hq⟩, hs12⟩
      have HS12 := Lib.hid hs12
      obtain ⟨H, hH⟩ : ∃ H, (xh (L + 1) : Int) = H := ⟨_, rfl⟩
      have hH2 := (xh_spec (n := L + 1) (by have := HLEN.out; omega)).2.1
      have hHb : 0 ≤ H ∧ H ≤ 80 := ⟨by omega, by omega⟩
      have hbd : updBd l.length = 60 * (H + 2) := by unfold updBd; rw [HLL.out, hH]
      have HRD : Hid (0 ≤ rd ∧ rd ≤ 0 + 60 * (H + 2) ∧ rd ≤ 10000 ∧ 60 * (H + 2) ≤ 10000) := ⟨h40, by omega, by omega, by omega⟩
      have HHI : Hid (xhI ((L : Int) + 1) = H) := by show _ = _; rw [show (L : Int) + 1 = ((L + 1 : Nat) : Int) by omega, xhI_nat (by have := HLEN.out; omega)]; exact hH
      have HHT : Hid (∀ wx, Calls Tryz.prog 19 #[.int .i64 ((L : Int) + 1)] wx (Calm wx (.int .i64 H))) := fun wx => by rw [← HHI.out]; exact height_kit _ wx (by omega) (by have := HLEN.out; omega)
      obtain ⟨hH0, hH80⟩ := hHb
      clear hs12 HS11 h40 h41 hH hH2 hbd
      rcases hq with ⟨hin, rfl, hgot, hfree⟩ | ⟨hin, hfull, rfl, rfl⟩ | ⟨hin, hroom, j, u, rfl, hgot, huse, hle⟩
      · have HFB : Hid (B.σ.free.length = M) := hfree.trans HNM.out.2.1
        have hgk := HVZ.out
        rw [hin] at hgk
        obtain ⟨rfl, rfl⟩ : v = V ∧ true = Z := hgk
        have HINV : Hid (B.Inv [] (hof [ri, ri])) := by
          have := hgot.inv
          rw [HPI.out, hof_pls] at this
          exact this
        have HBG : Hid (B.Agg ∧ B.σ.cap = N ∧ KeptS N A.sl B.sl) := ⟨hgot.agg, hgot.kept.cap.trans HNM.out.1, kept_keptS2 hgot.kept hgot.gen⟩
        have HON : Hid (∀ z ∈ [ri, ri], z = 0 ∨ B.σ.on z = true) := fun z hz => by
          simp at hz
          rcases hz with rfl
          · exact HTR.out.sub.idx.imp_right (hgot.kept.on _)
        have HJI : Hid (ri < 4294967296) := hgot.idx
        clear hin hgot hfree
        go_wp2_with fail
        refine (HHT.out w12).mono ?_
        rintro en w13 ⟨rfl, hb13⟩
        have HS13 := Lib.hid (HS12.out.calm hb13)
        clear hb13 HS12
        go_wp2_with fail
        refine (within_any (most := 60 * (H + 2)) HS13.out.mr (Int.le_refl _) HRD.out.1 HRD.out.2.1 (by have := HRD.out; omega) (by have := HRD.out; omega)).mono ?_
        rintro en w14 ⟨rfl, hb14⟩
        have HS14 := Lib.hid (HS13.out.calm hb14)
        clear hb14 HS13
        go_upto_region 16 with fail
        obtain ⟨-, -, e0, e1⟩ := HCEL.out (bs' := []) HS14.out
        have hvv : (v == v) = true := by simp
        go_cut [108] from 102 to 107 (fun s wx => s = .bool true ∧ w14 = wx)
        case first =>
          go_wp2_with fail
          go_meet
          exact ⟨rfl, rfl⟩
        case' rest =>
          obtain ⟨rfl, rfl⟩ := hcut
          go_upto_region 17 with fail
          obtain ⟨q0, q1, -⟩ := HCEL.out (bs' := []) HS14.out
          have hSd := HS14.out.calm (Below.refl _ _).drew
          have hmm : ((M : Int) == (M : Int)) = true := by simp
          have hrr : ((ri : Int) == (ri : Int)) = true := by simp
          go_region_held3 (fun w' => w'.cell? ⟨q, 0, none⟩ = some (.slice da N dc) ∧ w'.cell? ⟨q, 1, none⟩ = some (.slice db M dd)) (go_keep) (first
            | (go_at_call 20; refine hSd.free.mono ?_; rintro en wC ⟨rfl, hsC⟩; rw [HFB.out]; obtain ⟨q0, q1, -⟩ := HCEL.out (bs' := []) hsC)
            | (go_at_call 21; refine ((hsC.box _ _).sound HCHK.out HINV.out HBG.out.1 (u2_at _ _ ri ri HRI.out HRI.out) (L := 2) rfl (by decide) HON.out).mono ?_; rintro en wE ⟨rfl, hbE⟩; have hsE := (hsC.box _ _).calm hbE; obtain ⟨q0, q1, -⟩ := HCEL.out (bs' := [_]) hsE))
          all_goals (go_wp2_with fail; go_ret; exact ⟨rfl, hsE.below⟩)
      · have HROOM : Hid ((M : Int) < NE) := by show _ < _; rw [← HNE.out.1, ← HNM.out.2.1, ← HLL.out]; exact hfull
        have HNI : Hid (Z = true → (V == v) = false) := fun hz => by
          have h1 := HVZ.out.2
          rw [hz] at h1
          cases hg : getE l k with
          | none => rw [hg] at h1; cases h1
          | some e' =>
            have h2 := HVZ.out.1
            rw [hg] at h2
            have h3 := ((getE_iff HUP.out k e').1 hg).2
            have h4 : ¬ V = v := fun h => hin (by
              rw [hg]
              have h5 : e'.val = v := h2.trans h
              obtain ⟨ky, vy⟩ := e'
              have h6 : ky = k := h3
              have h7 : vy = v := h5
              rw [h6, h7])
            simpa using h4
        clear hin hfull
        go_wp2_with fail
        refine (HHT.out w12).mono ?_
        rintro en w13 ⟨rfl, hb13⟩
        have HS13 := Lib.hid (HS12.out.calm hb13)
        clear hb13 HS12
        go_wp2_with fail
        refine (within_any (most := 60 * (H + 2)) HS13.out.mr (Int.le_refl _) HRD.out.1 HRD.out.2.1 (by have := HRD.out; omega) (by have := HRD.out; omega)).mono ?_
        rintro en w14 ⟨rfl, hb14⟩
        have HS14 := Lib.hid (HS13.out.calm hb14)
        clear hb14 HS13
        go_upto_region 16 with fail
        obtain ⟨-, -, e0, e1⟩ := HCEL.out (bs' := []) HS14.out
        go_cut [108] from 102 to 107 (fun s wx => s = .bool false ∧ w14 = wx)
        case first =>
          cases Z with
          | false =>
            go_wp2_with fail
            go_meet
            exact ⟨rfl, rfl⟩
          | true =>
            have hvn := HNI.out rfl
            go_wp2_with fail
            go_meet
            exact ⟨rfl, rfl⟩
        case' rest =>
          obtain ⟨rfl, rfl⟩ := hcut
          clear e0 e1
          obtain ⟨q0, q1, e0, e1⟩ := HCEL.out (bs' := []) HS14.out
          have hms : decide ((M : Int) < NE) = true := decide_eq_true (by have := HROOM.out; omega)
          go_upto_region 19 with fail
          clear q0 q1 e0 e1
          obtain ⟨q0, q1, -⟩ := HCEL.out (bs' := []) HS14.out
          have hSd := HS14.out.calm (Below.refl _ _).drew
          go_region_held3 (fun w' => w'.cell? ⟨q, 0, none⟩ = some (.slice da N dc) ∧ w'.cell? ⟨q, 1, none⟩ = some (.slice db M dd)) (go_keep) (first
            | (go_at_call 15; refine hSd.dump.mono ?_; rintro en wC ⟨ea, ec, eb, ed, rfl, hsC, -⟩; rw [HNM.out.1, HNM.out.2.1] at hsC ⊢; obtain ⟨q0, q1, -⟩ := HCEL.out (bs' := []) hsC)
            | (go_at_call 22; refine (same_dump B.σ.free HNM.out.2.1 (hsC.slots_of (c := ec) HPL.out.inv HNM.out.1 (by simp)) (hsC.slots_of (c := dc) HPL.out.inv HNM.out.1 (by simp [HR1.out])) (hsC.rows ⟨30, 1, .slice eb M ed, M, u32s B.σ.free⟩ (by simp)) (hsC.rows ⟨30, 1, .slice db M dd, M, u32s B.σ.free⟩ (by simp [HR0.out])) (by have := HNM.out; omega) (by have := HNM.out; omega)).mono ?_; rintro en wD ⟨rfl, hbD⟩; have hsD := hsC.calm hbD; obtain ⟨q0, q1, -⟩ := HCEL.out (bs' := []) hsD))
          all_goals (go_wp2_with fail; go_ret; exact ⟨rfl, hsD.below⟩)
      · have HROOM : Hid (NE ≤ (M : Int)) := by show _ ≤ _; rw [← HNE.out.1, ← HNM.out.2.1, ← HLL.out]; exact hroom
        rw [HVZ.out.1, HVZ.out.2]
        obtain ⟨FB, hFB⟩ : ∃ f, B.σ.free.length = f := ⟨_, rfl⟩
        have HUSE : Hid (B.σ.free.length = FB ∧ (M : Int) ≤ (FB : Int) + NE ∧ (FB : Int) ≤ (M : Int)) := ⟨hFB, by rw [← HNE.out.1, ← HNM.out.2.1, ← HLL.out, ← hFB]; exact huse, by rw [← hFB]; have := HNM.out.2.1; omega⟩
        have HTJ := Lib.hid (hgot.tree (insE_up ⟨k, v⟩ HUP.out))
        have HNI : Hid (Z = true → (V == v) = false) := fun hz => by
          have h1 := HVZ.out.2
          rw [hz] at h1
          cases hg : getE l k with
          | none => rw [hg] at h1; cases h1
          | some e' =>
            have h2 := HVZ.out.1
            rw [hg] at h2
            have h3 := ((getE_iff HUP.out k e').1 hg).2
            have h4 : ¬ V = v := fun h => hin (by
              rw [hg]
              have h5 : e'.val = v := h2.trans h
              obtain ⟨ky, vy⟩ := e'
              have h6 : ky = k := h3
              have h7 : vy = v := h5
              rw [h6, h7])
            simpa using h4
        have HINV : Hid (B.Inv [] (hof [ri, j])) := by
          have := hgot.inv
          rw [HPI.out, hof_pls] at this
          exact this
        have HBG : Hid (B.Agg ∧ B.σ.cap = N ∧ KeptS N A.sl B.sl) := ⟨hgot.agg, hgot.kept.cap.trans HNM.out.1, kept_keptS2 hgot.kept hgot.gen⟩
        have HON : Hid (∀ z ∈ [ri, j], z = 0 ∨ B.σ.on z = true) := fun z hz => by
          simp at hz
          rcases hz with rfl | rfl
          · exact HTR.out.sub.idx.imp_right (hgot.kept.on _)
          · exact hgot.sub.idx
        have HJI : Hid (j < 4294967296) := hgot.idx
        clear hin hroom hgot huse hle hFB
        go_wp2_with fail
        refine (HHT.out w12).mono ?_
        rintro en w13 ⟨rfl, hb13⟩
        have HS13 := Lib.hid (HS12.out.calm hb13)
        clear hb13 HS12
        go_wp2_with fail
        refine (within_any (most := 60 * (H + 2)) HS13.out.mr (Int.le_refl _) HRD.out.1 HRD.out.2.1 (by have := HRD.out; omega) (by have := HRD.out; omega)).mono ?_
        rintro en w14 ⟨rfl, hb14⟩
        have HS14 := Lib.hid (HS13.out.calm hb14)
        clear hb14 HS13
        go_upto_region 16 with fail
        obtain ⟨-, -, e0, e1⟩ := HCEL.out (bs' := []) HS14.out
        go_cut [108] from 102 to 107 (fun s wx => s = .bool false ∧ w14 = wx)
        case first =>
          cases Z with
          | false =>
            go_wp2_with fail
            go_meet
            exact ⟨rfl, rfl⟩
          | true =>
            have hvn := HNI.out rfl
            go_wp2_with fail
            go_meet
            exact ⟨rfl, rfl⟩
        case' rest =>
          obtain ⟨rfl, rfl⟩ := hcut
          clear e0 e1
          obtain ⟨q0, q1, e0, e1⟩ := HCEL.out (bs' := []) HS14.out
          have hms : decide ((M : Int) < NE) = false := decide_eq_false (by have := HROOM.out; omega)
          go_wp2_with fail
          clear q0 q1 e0 e1
          refine HS14.out.dump.mono ?_
          rintro en w15 ⟨na, nc, nb, nd, rfl, hs15, -⟩
          rw [HBG.out.2.1, HUSE.out.1] at hs15 ⊢
          have hs16 := hs15.box #[.slice na N nc, .slice nb FB nd] 41
          clear hs15 HS14
          go_upto_region 21 with fail
          generalize w15.alloc (.cells #[.slice na N nc, .slice nb FB nd] 41) = w16 at hs16 ⊢
          generalize w15.heap.size = qn at hs16 ⊢
          have HS16 := Lib.hid hs16
          clear hs16
          have HCN : Hid (∀ {wx : World} {C : Ar} {rdx : Int} {rs' : List Row} {bs' : List (Nat × Obj)}, Scn I w.heap.size w wx (.pointer (some pa)) C rdx rs' (bs' ++ [(qn, .cells #[.slice na N nc, .slice nb FB nd] 41 (0, 0)), (q, .cells #[.slice da N dc, .slice db M dd] 41 (0, 0)), (ge, .cells #[.int .i64 k, .int .i64 v] 25 (0, 0))]) → wx.cell? ⟨q, 0, none⟩ = some (.slice da N dc) ∧ wx.cell? ⟨q, 1, none⟩ = some (.slice db M dd) ∧ wx.cell? ⟨ge, 0, none⟩ = some (.int .i64 k) ∧ wx.cell? ⟨ge, 1, none⟩ = some (.int .i64 v) ∧ wx.cell? ⟨qn, 0, none⟩ = some (.slice na N nc) ∧ wx.cell? ⟨qn, 1, none⟩ = some (.slice nb FB nd)) := fun {wx C rdx rs' bs'} h => by
            obtain ⟨q0, q1⟩ := two_cells (h.boxes (q, .cells #[.slice da N dc, .slice db M dd] 41 (0, 0)) (by simp)).2
            obtain ⟨n0, n1⟩ := two_cells (h.boxes (qn, .cells #[.slice na N nc, .slice nb FB nd] 41 (0, 0)) (by simp)).2
            obtain ⟨e0, e1, -, -⟩ := h.two (g := ge) (x := k) (y := v) (t := 25) (by simp)
            exact ⟨q0, q1, e0, e1, n0, n1⟩
          obtain ⟨q0, q1, e0, e1, n0, n1⟩ := HCN.out (bs' := []) HS16.out
          have hSd := HS16.out.calm (Below.refl _ _).drew
          have hvv : (V == V) = true := by simp
          have hzz : (Z == Z) = true := by simp
          have hu1 : IntKind.i64.wrap ((M : Int) - (FB : Int)) = (M : Int) - (FB : Int) := by rw [IntKind.wrap_i64]; have := HNM.out; have := HUSE.out; omega
          have hu2 : decide ((M : Int) - (FB : Int) ≤ NE) = true := decide_eq_true (by have := HUSE.out; omega)
          have HLI : Hid (l.length ≤ 1000000) := by show _ ≤ _; rw [HLL.out]; have := HLEN.out; omega
          obtain ⟨LN, hLN⟩ : ∃ LN, (insE l ⟨k, v⟩).length = LN := ⟨_, rfl⟩
          have HL2 : Hid ((insE l ⟨k, v⟩).length = LN ∧ LN ≤ 65536) := ⟨hLN, by rw [← hLN]; have := insE_len l ⟨k, v⟩; have := HLI.out; have := HLEN.out; have := HLL.out; omega⟩
          have HINS : Hid (∀ wx, EnsAt wx a1 l → Calls Tryz.prog 24 #[.slice a1 L c1, .agg #[.int .i64 k, .int .i64 v]] wx (fun e w' => ∃ a c, e = .returned (.slice a LN c) ∧ w'.ownsRow wx.heap.size 25 2 (.slice a LN c) LN (ensV (insE l ⟨k, v⟩)) ∧ Below wx.heap.size wx w')) := fun wx h => by
            have h1 := insert_any (c := c1) ⟨k, v⟩ h HKV.out HLI.out
            rw [HLL.out] at h1
            refine h1.mono ?_
            rintro e w' ⟨a', c', he, hr, hb⟩
            rw [HL2.out.1] at he hr
            exact ⟨a', c', he, hr, hb⟩
          have HIW : Hid (∀ y ∈ insE l ⟨k, v⟩, i64R y.key ∧ i64R y.val) := insE_wf HWF.out HKV.out
          clear hLN
          go_region_held3 (fun w' => w'.cell? ⟨q, 0, none⟩ = some (.slice da N dc) ∧ w'.cell? ⟨q, 1, none⟩ = some (.slice db M dd) ∧ w'.cell? ⟨ge, 0, none⟩ = some (.int .i64 k) ∧ w'.cell? ⟨ge, 1, none⟩ = some (.int .i64 v) ∧ w'.cell? ⟨qn, 0, none⟩ = some (.slice na N nc) ∧ w'.cell? ⟨qn, 1, none⟩ = some (.slice nb FB nd)) (go_keep) (first
            | (go_at_call 24; refine (HINS.out _ (ens_row (B := w.heap.size) (c := c1) HLL.out (hSd.rows _ (List.mem_cons_of_mem _ (List.mem_cons_of_mem _ HR2.out))) HWF.out)).mono ?_; rintro en wA ⟨xa, xc, rfl, hrA, hbA⟩; have hsA := hSd.row hbA hrA; obtain ⟨q0, q1, e0, e1, n0, n1⟩ := HCN.out (bs' := []) hsA)
            | (go_at_call 23; refine (refTree_any HINV.out HBG.out.2.1 (hsA.slots_of (c := nc) HINV.out HBG.out.2.1 (by simp)) HTJ.out (ens_row (B := w.heap.size) (c := xc) HL2.out.1 (hsA.rows _ (List.mem_cons_self ..)) HIW.out) HL2.out.1 HL2.out.2).mono ?_; rintro en wB ⟨rfl, hbB⟩; have hsB := hsA.calm hbB; obtain ⟨q0, q1, e0, e1, n0, n1⟩ := HCN.out (bs' := []) hsB)
            | (go_at_call 25; refine (kept_any (hsB.slots_of (c := dc) HPL.out.inv HNM.out.1 (by simp [HR1.out])) (hsB.slots_of (c := nc) HINV.out HBG.out.2.1 (by simp)) HBG.out.2.2 (by have := HNM.out; omega)).mono ?_; rintro en wD ⟨rfl, hbD⟩; have hsD := hsB.calm hbD; obtain ⟨q0, q1, e0, e1, n0, n1⟩ := HCN.out (bs' := []) hsD)
            | (go_at_call 21; refine ((hsD.box _ _).sound HCHK.out HINV.out HBG.out.1 (u2_at _ _ ri j HRI.out HJI.out) (L := 2) rfl (by decide) HON.out).mono ?_; rintro en wE ⟨rfl, hbE⟩; have hsE := (hsD.box _ _).calm hbE; obtain ⟨q0, q1, e0, e1, n0, n1⟩ := HCN.out (bs' := [_]) hsE))
          all_goals (go_wp2_with fail; go_ret; exact ⟨rfl, hsE.below⟩)
end Go.Proofs.YtckkmmdibgoajaaGreat
