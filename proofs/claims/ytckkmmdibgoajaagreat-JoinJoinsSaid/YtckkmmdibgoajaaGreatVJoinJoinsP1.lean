/- Of the proof of VJoinJoinsP: Scene, JnDuo, LawJnJoin. -/
import Derived.Test.YtckkmmdibgoajaaGreatV1
import Derived.Test.YtckkmmdibgoajaaGreatV2
import Derived.Test.YtckkmmdibgoajaaGreatV3
import Derived.Test.YtckkmmdibgoajaaGreatV4
import Derived.Test.YtckkmmdibgoajaaGreatV5
import Derived.Test.YtckkmmdibgoajaaGreatV6
import Derived.Test.YtckkmmdibgoajaaGreatV11
import Derived.Test.YtckkmmdibgoajaaGreatV12
import Derived.Test.YtckkmmdibgoajaaGreatV13
import Derived.Test.YtckkmmdibgoajaaGreatV16
import Derived.Deep.QuietTactic
import Derived.Deep.RegionHeld3
import Derived.Deep.DeepCutAuto
set_option linter.unusedVariables false
set_option linter.unusedSimpArgs false
namespace Go.Proofs.YtckkmmdibgoajaaGreat
open Go.RowKit
section
variable {I : AImpl} {B : Nat} {w0 w w' : World} {p : Value} {A : Ar} {rd rd' : Int} {rs : List Row} {bs : List (Nat × Obj)}
/-- a node that is read -/
theorem Scn.node (h : Scn I B w0 w p A rd rs bs) (h0 : 0 ≤ rd) (h1 : rd ≤ 4398046511104) {i : Nat} (hi : i < 4294967296) (hon : A.σ.on i = true) :
    Calls Tryz.prog 35 #[p, .int .u32 (i : Int)] w fun e w' => e = .returned (.tuple #[.agg (ndRow (A.nd i)), .bool true]) ∧ Scn I B w0 w' p A (rd + 1) rs bs := by
  obtain ⟨F, f1, f2, f3⟩ := h.mr.has
  refine (I.node p A rd F i w f1 h0 (by omega) hi).mono ?_
  rintro e w1 ⟨F', hal, _, h6⟩
  obtain ⟨rfl, h7⟩ := h6 hon
  have hst := h.mr.step f2 f3 hal h7
  exact ⟨rfl, h.step hst.1 hst.2⟩
end
end Go.Proofs.YtckkmmdibgoajaaGreat
set_option linter.unusedVariables false
set_option linter.unusedSimpArgs false
namespace Go.Proofs.YtckkmmdibgoajaaGreat
open Go.RowKit
end Go.Proofs.YtckkmmdibgoajaaGreat
set_option linter.unusedVariables false
set_option linter.unusedSimpArgs false
namespace Go.Proofs.YtckkmmdibgoajaaGreat
open Go.RowKit
end Go.Proofs.YtckkmmdibgoajaaGreat
set_option linter.unusedVariables false
set_option linter.unusedSimpArgs false
namespace Go.Proofs.YtckkmmdibgoajaaGreat
open Go.RowKit
theorem allLt_iff {l : List En} (hu : Up l) (k : Int) : AllLt l k ↔ ∀ x, l.getLast? = some x → x.key < k := by
  constructor
  · intro h x hx
    exact h x (List.mem_of_getLast? hx)
  · intro h y hy
    obtain ⟨x, hx⟩ : ∃ x, l.getLast? = some x := ⟨_, List.getLast?_eq_some_getLast (fun e => by rw [e] at hy; cases hy)⟩
    have h0 := h x hx
    obtain ⟨i, hi, rfl⟩ := List.mem_iff_getElem.1 hy
    rw [List.getLast?_eq_getElem?] at hx
    obtain ⟨hj, rfl⟩ := List.getElem?_eq_some_iff.1 hx
    rcases Nat.lt_or_ge i (l.length - 1) with h2 | h2
    · have := List.pairwise_iff_getElem.1 hu i (l.length - 1) hi hj h2; omega
    · have h3 : i = l.length - 1 := by omega
      subst h3; exact h0
theorem allGt_iff {l : List En} (hu : Up l) (k : Int) : AllGt l k ↔ ∀ x, l.head? = some x → k < x.key := by
  constructor
  · intro h x hx
    exact h x (List.mem_of_mem_head? hx)
  · intro h y hy
    cases l with
    | nil => cases hy
    | cons z t =>
      have h0 := h z rfl
      rcases List.mem_cons.1 hy with rfl | hy
      · exact h0
      · have := (List.pairwise_cons.1 hu).1 y hy; omega
end Go.Proofs.YtckkmmdibgoajaaGreat
set_option linter.unusedVariables false
set_option linter.unusedSimpArgs false
namespace Go.Proofs.YtckkmmdibgoajaaGreat
open Go.RowKit
theorem Scn.set1 {I : AImpl} {B : Nat} {w0 w : World} {p : Value} {A : Ar} {rd : Int} {rs : List Row} {bs : List (Nat × Obj)} {g : Nat} {x0 y0 : Value} {t : TypeId} (h : Scn I B w0 w p A rd rs ((g, .cells #[x0, y0] t (0, 0)) :: bs)) (x : Value) :
    Scn I B w0 (w.setCell ⟨g, 0, none⟩ x) p A rd rs ((g, .cells #[x, y0] t (0, 0)) :: bs) :=
  h.set (by rw [heap_setCell_same w g 0 _ _ _ (h.boxes (g, .cells #[x0, y0] t (0, 0)) (by simp)).2]; rfl) ⟨rfl, rfl, rfl, by simp [World.setCell], fun k hk => heap_setCell_other _ _ _ _ hk⟩
set_option maxHeartbeats 16000000 in
set_option maxRecDepth 100000 in
theorem joins_walk (I : AImpl) (hchk : CheckSpec) (K : JoinImpl I) {a : Option Addr} {n c : Nat} {raw : List En} {at_ skip tilt free ek ev : Int} {between : Bool} {w : World} (hE : EnsAt w a raw) (hn : raw.length = n) (hnm : n ≤ 9223372036854775807) (hat : i64R at_) (hsk : i64R skip) (ht0 : 0 ≤ tilt) (ht1 : tilt < 18446744073709551616) (hek : i64R ek) (hev : i64R ev) (hf0 : 0 ≤ free) (hf1 : free < 65536) :
    Calls Tryz.prog 5 #[.slice a n c, .int .i64 at_, .int .i64 skip, .int .u64 tilt, .agg #[.int .i64 ek, .int .i64 ev], .bool between, .int .u16 free] w (Calm w (.bool true)) := by
  have HEK : Hid (i64R ek ∧ i64R ev) := ⟨hek, hev⟩
  clear hek hev
  have HK := Lib.hid K
  have HCHK := Lib.hid hchk
  have HAT := Lib.hid hat
  have HSK := Lib.hid hsk
  have HF : Hid (0 ≤ free ∧ free < 65536) := ⟨hf0, hf1⟩
  have HWF : Hid (∀ y ∈ listE raw 150, i64R y.key ∧ i64R y.val) := fun y hy => hE.wf y (listE_mem hy)
  have HL := Lib.hid (list_any (c := c) (k := 150) (hE.below (below_newL w (.cells #[.int .i64 ek, .int .i64 ev] 25))) hn hnm (by decide))
  have HT : Hid (0 ≤ tilt ∧ tilt < 18446744073709551616) := ⟨ht0, ht1⟩
  have HUP := Lib.hid (listE_up raw 150)
  have HLEN := Lib.hid (listE_len raw 150)
  clear K hchk hE hn hnm ht0 ht1 hat hsk hf0 hf1
  have HBA0 : Hid (Below w.heap.size w (w.alloc (.cells #[.int .i64 ek, .int .i64 ev] 25)) ∧ (w.alloc (.cells #[.int .i64 ek, .int .i64 ev] 25)).heap[w.heap.size]? = some (.cells #[.int .i64 ek, .int .i64 ev] 25 (0, 0))) := ⟨below_newL _ _, heap_alloc_new _ _⟩
  go_enter Tryz.func5, Tryz.ntmps5
  go_upto_region 1 with fail
  generalize w.alloc (.cells #[.int .i64 ek, .int .i64 ev] 25) = wa at HL HBA0 ⊢
  obtain ⟨ge, hge⟩ : ∃ g, w.heap.size = g := ⟨_, rfl⟩
  have HBA : Hid (Below w.heap.size w wa ∧ w.heap.size ≤ ge ∧ wa.heap[ge]? = some (.cells #[.int .i64 ek, .int .i64 ev] 25 (0, 0))) := ⟨HBA0.out.1, Nat.le_of_eq hge, by rw [← hge]; exact HBA0.out.2⟩
  (try rw [hge])
  clear hge HBA0
  go_wp2_with fail
  refine HL.out.mono ?_
  rintro en w1 ⟨a1, c1, rfl, hr1, hb1⟩
  have HR1 := Lib.hid hr1
  have HB1 := Lib.hid hb1
  clear hr1 hb1 HL
  generalize listE raw 150 = l at HUP HLEN HR1 HWF ⊢
  obtain ⟨L, hL⟩ : ∃ L, l.length = L := ⟨_, rfl⟩
  rw [hL] at HLEN HR1 ⊢
  have HLL := Lib.hid hL
  have hLi : (L : Int) ≤ 150 := by have := HLEN.out; omega
  have HE1 := Lib.hid (ens_row hL HR1.out HWF.out)
  have HC1 := Lib.hid (row_caps HR1.out)
  clear hL
  have hjn := join_le (l := (L : Int)) (r := 0) (by omega) (by omega) (by omega)
  obtain ⟨JN, hJN⟩ : ∃ JN, joinI (L : Int) 0 = JN := ⟨_, rfl⟩
  rw [hJN] at hjn
  have HJN : Hid (joinI (L : Int) 0 = JN ∧ 0 ≤ JN ∧ JN ≤ 64) := ⟨hJN, hjn.2, hjn.1⟩
  clear hjn hJN
  go_wp2_with fail
  refine (refJoin_any (L : Int) 0 w1 ⟨by omega, by omega⟩ ⟨by omega, by omega⟩).mono ?_
  rintro en w2 ⟨rfl, hb2⟩
  rw [HJN.out.1]
  have HB2 := Lib.hid hb2
  clear hb2
  go_wp2_with fail
  refine (spare13_any free JN w2 HF.out.1 HF.out.2 HJN.out.2.1 (by have := HJN.out; omega)).mono ?_
  rintro en w2' ⟨sp, rfl, hsp, rfl⟩
  have HSP : Hid (sp ≤ 72) := by have := HJN.out; show _ ≤ _; omega
  clear hsp
  go_wp2_with fail
  refine (pair13_any I (HE1.out.below HB2.out) HLL.out HC1.out.1 HC1.out.2 HUP.out (by have := HLEN.out; omega) (by have := HSP.out; omega) HAT.out HSK.out HT.out.1 HT.out.2).mono ?_
  rintro en w3 ⟨p, A, X, Y, PX, Q, tX, tY, F, aX, aY, cX, cY, rfl, hpr, hen, hc2, hc2m, hc3, hc3m⟩
  obtain ⟨pa, rfl⟩ := I.ptr hpr.is
  have HS3 := Lib.hid (Scn.init3 (g := ge) (o := .cells #[.int .i64 ek, .int .i64 ev] 25 (0, 0)) hpr.is hpr.foot hpr.below (HB1.out.trans (HB2.out.mono HB1.out.size)) HBA.out.1 (row_below HR1.out HB2.out) HBA.out.2.1 HBA.out.2.2)
  have hduo := hpr.duo HWF.out hen
  obtain ⟨PY, hR⟩ : ∃ R, l.length - Q = R := ⟨_, rfl⟩
  rw [hR] at hduo hc3 ⊢
  generalize l.take PX = LX at hduo
  generalize l.drop Q = LY at hduo
  have HDU := Lib.hid hduo
  have HCP : Hid (A.σ.cap = L + 1 + sp) := by have := hpr.cap; rw [HLL.out] at this; exact this
  have HC2 : Hid (PX ≤ cX ∧ cX ≤ maxLen ∧ PY ≤ cY ∧ cY ≤ maxLen) := ⟨hc2, hc2m, hc3, hc3m⟩
  have HSUM : Hid (PX + PY ≤ L) := by have := hduo.sum; rw [HLL.out] at this; exact this
  have hpx : (PX : Int) ≤ 150 := by have := HSUM.out; have := HLEN.out; omega
  have hpy : (PY : Int) ≤ 150 := by have := HSUM.out; have := HLEN.out; omega
  have HXI : Hid (X < 4294967296 ∧ Y < 4294967296) := ⟨hduo.tx.idx, hduo.ty.idx⟩
  have HHM : Hid (∀ j, hof [X, Y] j ≤ 1048000) := fun j => by have := hof_le [X, Y] j; simp at this; omega
  clear hpr hen hc2 hc2m hc3 hc3m hduo hR HR1 HE1 HC1 HT HB1 HB2 HAT HSK
  go_wp2_with fail
  refine (awake13_any I HK.out w3).mono ?_
  rintro en w4 ⟨rfl, hb4⟩
  have HS4 := Lib.hid (HS3.out.calm hb4)
  clear hb4 HS3
  go_upto_region 6 with fail
  go_cut [72] from 57 to 71 (fun s72 wx => ∃ bb : Bool, s72 = .bool bb ∧ (bb = true → 0 < PX ∧ ∀ x, LX.getLast? = some x → x.key < 9223372036854775807) ∧ w4 = wx)
  case first =>
    cases between with
    | false =>
      go_wp2_with fail
      go_meet
      exact ⟨false, rfl, (fun h => by cases h), rfl⟩
    | true =>
      rcases Nat.eq_zero_or_pos PX with h0 | h0
      · have hd : decide ((PX : Int) > 0) = false := decide_eq_false (by omega)
        have hd2 : decide ((0 : Int) < (PX : Int)) = false := decide_eq_false (by omega)
        have hd3 : ¬ 0 < PX := by omega
        clear h0
        go_wp2_with fail
        go_meet
        exact ⟨false, rfl, (fun h => by cases h), rfl⟩
      · have hd : decide ((PX : Int) > 0) = true := decide_eq_true (by omega)
        have hd2 : decide ((0 : Int) < (PX : Int)) = true := decide_eq_true (by omega)
        have hx0 : LX ≠ [] := fun e => by have := HDU.out.lx; rw [e] at this; simp at this; omega
        obtain ⟨kx, hkx⟩ : ∃ e, LX.getLast? = some e := ⟨_, List.getLast?_eq_some_getLast hx0⟩
        obtain ⟨m, hm⟩ : ∃ m, PX = m + 1 := ⟨PX - 1, by omega⟩
        have hkm : LX[m]? = some kx := by rw [List.getLast?_eq_getElem?, HDU.out.lx, hm] at hkx; exact hkx
        obtain ⟨b, off, hab, hb, c0, -⟩ := (HDU.out.en w4 (ens_row (B := w.heap.size) (c := c1) HLL.out (HS4.out.rows _ (List.mem_singleton.2 rfl)) HWF.out)).1.cell m kx hkm
        have HAB := Lib.hid hab
        have hm1 : IntKind.i64.wrap ((PX : Int) - 1) = (m : Int) := by rw [IntKind.wrap_i64]; omega
        have hm2 : (m : Int) < (PX : Int) := by omega
        have hm3 : (0 : Int) ≤ (m : Int) := by omega
        have HKX : Hid (LX.getLast? = some kx) := hkx
        have HP0 := Lib.hid h0
        by_cases hlt : kx.key < 9223372036854775807
        · have q1 : decide (kx.key < 9223372036854775807) = true := decide_eq_true hlt
          have HLT := Lib.hid hlt
          subst hab
          clear hx0 hkx hm hkm hb hlt
          go_wp2_with fail
          go_meet
          exact ⟨true, rfl, fun _ => ⟨HP0.out, fun x hx => by rw [HKX.out] at hx; cases hx; exact HLT.out⟩, rfl⟩
        · have q1 : decide (kx.key < 9223372036854775807) = false := decide_eq_false hlt
          subst hab
          clear hx0 hkx hm hkm hb hlt
          go_wp2_with fail
          go_meet
          exact ⟨false, rfl, (fun h => by cases h), rfl⟩
  case' rest =>
    obtain ⟨bb, rfl, hbb, rfl⟩ := hcut
    have HBBL := Lib.hid hbb
    clear hbb
    go_upto_if 72 with fail
    go_cut [] from 73 to 81 (fun wx => ∃ k : Int, i64R k ∧ Scn I w.heap.size w wx (.pointer (some pa)) A 0 [⟨25, 2, .slice a1 L c1, L, ensV l⟩] [(ge, .cells #[.int .i64 k, .int .i64 ev] 25 (0, 0))])
    case first =>
      cases bb with
      | false =>
        go_wp2_with fail
        go_meet
        exact ⟨ek, HEK.out.1, HS4.out⟩
      | true =>
        obtain ⟨h0, hmx⟩ := HBBL.out rfl
        have hx0 : LX ≠ [] := fun e => by have := HDU.out.lx; rw [e] at this; simp at this; omega
        obtain ⟨kx, hkx⟩ : ∃ e, LX.getLast? = some e := ⟨_, List.getLast?_eq_some_getLast hx0⟩
        have hmk := hmx kx hkx
        obtain ⟨m, hm⟩ : ∃ m, PX = m + 1 := ⟨PX - 1, by omega⟩
        have hkm : LX[m]? = some kx := by rw [List.getLast?_eq_getElem?, HDU.out.lx, hm] at hkx; exact hkx
        have hkr := (HDU.out.wx kx (List.mem_of_getLast? hkx)).1
        obtain ⟨b, off, hab, hb, c0, -⟩ := (HDU.out.en w4 (ens_row (B := w.heap.size) (c := c1) HLL.out (HS4.out.rows _ (List.mem_singleton.2 rfl)) HWF.out)).1.cell m kx hkm
        have hm1 : IntKind.i64.wrap ((PX : Int) - 1) = (m : Int) := by rw [IntKind.wrap_i64]; omega
        have hm2 : (m : Int) < (PX : Int) := by omega
        have hm3 : (0 : Int) ≤ (m : Int) := by omega
        have hk1 : IntKind.i64.wrap (kx.key + 1) = kx.key + 1 := by rw [IntKind.wrap_i64]; have := hkr.1; omega
        have HKR : Hid (i64R (kx.key + 1)) := ⟨by have := hkr.1; omega, by omega⟩
        obtain ⟨e0, e1, f0, f1⟩ := HS4.out.two (g := ge) (x := ek) (y := ev) (t := 25) (by simp)
        have HSE := Lib.hid (HS4.out.set1 (.int .i64 (kx.key + 1)))
        subst hab
        clear h0 hmx hx0 hkx hmk hm hkm hkr hb
        go_wp2_with fail
        go_meet
        exact ⟨kx.key + 1, HKR.out, HSE.out⟩
    case' rest =>
      rename World => w5
      obtain ⟨k, hk, hs6⟩ := hcut
      have HKK := Lib.hid hk
      have HS6 := Lib.hid hs6
      clear hk hs6 HS4 HBBL
      go_wp2_with fail
      refine HS6.out.dump.mono ?_
      rintro en w9 ⟨da, dc, db, dd, rfl, hs9, -⟩
      obtain ⟨N, hN⟩ : ∃ N, A.σ.cap = N := ⟨_, rfl⟩
      obtain ⟨M, hM⟩ : ∃ M, A.σ.free.length = M := ⟨_, rfl⟩
      rw [hN, hM] at hs9 ⊢
      have hMN : M ≤ N := by rw [← hN, ← hM]; exact HDU.out.inv.ok.len
      have HNM : Hid (A.σ.cap = N ∧ A.σ.free.length = M ∧ (N : Int) ≤ 1000 ∧ (M : Int) ≤ 1000) := ⟨hN, hM, by have := HCP.out; have := HSP.out; have := HLEN.out; omega, by have := HCP.out; have := HSP.out; have := HLEN.out; omega⟩
      have HS9 := Lib.hid hs9
      clear hs9 hN hM hMN HS6
      go_wp2_with fail
      refine HS9.out.reads.mono ?_
      rintro en w10 ⟨rfl, hs10⟩
      have hs11 := hs10.box #[.slice da N dc, .slice db M dd] 41
      clear hs10 HS9
      go_upto_region 9 with fail
      generalize w10.alloc (.cells #[.slice da N dc, .slice db M dd] 41) = w11 at hs11 ⊢
      generalize w10.heap.size = q at hs11 ⊢
      obtain ⟨rs, hrs⟩ : ∃ rs : List Row, rs = [⟨30, 1, .slice db M dd, M, u32s A.σ.free⟩, ⟨90, 11, .slice da N dc, N, slotsV A⟩, ⟨25, 2, .slice a1 L c1, L, ensV l⟩] := ⟨_, rfl⟩
      rw [← hrs] at hs11
      have HR0 : Hid ((⟨30, 1, .slice db M dd, M, u32s A.σ.free⟩ : Row) ∈ rs) := by show _ ∈ _; rw [hrs]; simp
      have HR1 : Hid ((⟨90, 11, .slice da N dc, N, slotsV A⟩ : Row) ∈ rs) := by show _ ∈ _; rw [hrs]; simp
      have HR2 : Hid ((⟨25, 2, .slice a1 L c1, L, ensV l⟩ : Row) ∈ rs) := by show _ ∈ _; rw [hrs]; simp
      have HS11 := Lib.hid hs11
      clear hs11 hrs
      have HCEL : Hid (∀ {wx : World} {C : Ar} {rdx : Int} {rs' : List Row} {bs' : List (Nat × Obj)}, Scn I w.heap.size w wx (.pointer (some pa)) C rdx rs' (bs' ++ [(q, .cells #[.slice da N dc, .slice db M dd] 41 (0, 0)), (ge, .cells #[.int .i64 k, .int .i64 ev] 25 (0, 0))]) → wx.cell? ⟨q, 0, none⟩ = some (.slice da N dc) ∧ wx.cell? ⟨q, 1, none⟩ = some (.slice db M dd) ∧ wx.cell? ⟨ge, 0, none⟩ = some (.int .i64 k) ∧ wx.cell? ⟨ge, 1, none⟩ = some (.int .i64 ev)) := fun {wx C rdx rs' bs'} h => ⟨(two_cells (h.boxes (q, .cells #[.slice da N dc, .slice db M dd] 41 (0, 0)) (by simp)).2).1, (two_cells (h.boxes (q, .cells #[.slice da N dc, .slice db M dd] 41 (0, 0)) (by simp)).2).2, (h.two (g := ge) (x := k) (y := ev) (t := 25) (by simp)).1, (h.two (g := ge) (x := k) (y := ev) (t := 25) (by simp)).2.1⟩
      have HENS : Hid (∀ {wx : World} {C : Ar} {rdx : Int} {rs' : List Row} {bs' : List (Nat × Obj)}, Scn I w.heap.size w wx (.pointer (some pa)) C rdx (rs' ++ rs) bs' → EnsAt wx aX LX ∧ EnsAt wx aY LY) := fun {wx C rdx rs' bs'} h => HDU.out.en wx (ens_row (B := w.heap.size) (c := c1) HLL.out (h.rows _ (List.mem_append_right _ HR2.out)) HWF.out)
      obtain ⟨q0, q1, e0, e1⟩ := HCEL.out (bs' := []) HS11.out
      go_wp2_with fail
      clear q0 q1 e0 e1
      refine (HS11.out.mut fun F hI => HK.out.join ⟨k, ev⟩ w11 hI HDU.out.inv HHM.out HDU.out.tx HDU.out.ty HDU.out.wx HDU.out.wy (by decide) (by decide) HKK.out HEK.out.2).mono ?_
      rintro en w12 ⟨B, rd, ⟨h40, h41, hq⟩, hs12⟩
      have HS12 := Lib.hid hs12
      obtain ⟨H, hH⟩ : ∃ H, (xh (PX + PY + 1) : Int) = H := ⟨_, rfl⟩
      have hH2 := (xh_spec (n := PX + PY + 1) (by omega)).2.1
      have hHb : 0 ≤ H ∧ H ≤ 80 := ⟨by omega, by omega⟩
      have hbd : joinBd LX.length LY.length = 60 * (H + 2) := by
        unfold joinBd
        rw [HDU.out.lx, HDU.out.ly]
        omega
      have HRD : Hid (0 ≤ rd ∧ rd ≤ 0 + 60 * (H + 2) ∧ rd ≤ 10000 ∧ 60 * (H + 2) ≤ 10000) := ⟨h40, by omega, by omega, by omega⟩
      have HHI : Hid (xhI ((PX : Int) + (PY : Int) + 1) = H) := by show _ = _; rw [show (PX : Int) + (PY : Int) + 1 = ((PX + PY + 1 : Nat) : Int) by omega, xhI_nat (by omega)]; exact hH
      have HHT : Hid (∀ wx, Calls Tryz.prog 19 #[.int .i64 ((PX : Int) + (PY : Int) + 1)] wx (Calm wx (.int .i64 H))) := fun wx => by rw [← HHI.out]; exact height_kit _ wx (by omega) (by omega)
      obtain ⟨hH0, hH80⟩ := hHb
      clear hs12 HS11 h40 h41 hH hH2 hbd
      rcases hq with ⟨hord, rfl, rfl⟩ | ⟨hord, hfull, rfl, rfl⟩ | ⟨hord, hroom, j, tj, rfl, hgot, hbal⟩
      · have HORD := Lib.hid hord
        clear hord
        go_upto_region 11 with fail
        obtain ⟨-, -, e0, e1⟩ := HCEL.out (bs' := []) HS12.out
        go_cut [122] from 94 to 121 (fun s wx => s = .bool true ∧ ∃ d, wx = w12.drewN d)
        case first =>
          by_cases hl : AllLt LX k
          · have hg : ¬ AllGt LY k := fun h => HORD.out ⟨hl, h⟩
            have hy0 : LY ≠ [] := fun e => hg (by rw [e]; intro y hy; cases hy)
            obtain ⟨ky, hky⟩ : ∃ e, LY.head? = some e := ⟨_, List.head?_eq_some_head hy0⟩
            have hrx : ky.key ≤ k := Int.not_lt.1 fun h => hg ((allGt_iff HDU.out.ty.up k).2 fun x hx => by rw [hky] at hx; cases hx; exact h)
            have r0 : 0 < PY := by rw [← HDU.out.ly]; exact List.length_pos_iff.2 hy0
            rcases Nat.eq_zero_or_pos PX with h0 | h0
            · clear hl hg hy0
              have hd : decide ((PX : Int) > 0) = false := decide_eq_false (by omega)
              have hd2 : decide ((0 : Int) < (PX : Int)) = false := decide_eq_false (by omega)
              have hd3 : ¬ 0 < PX := by omega
              have hd4 : decide (0 < PX) = false := decide_eq_false hd3
              clear h0
              have rd1 : decide ((PY : Int) > 0) = true := decide_eq_true (by omega)
              have rd2 : decide ((0 : Int) < (PY : Int)) = true := decide_eq_true (by omega)
              have rd3 : 0 < PY := r0
              have rd4 : decide (0 < PY) = true := decide_eq_true r0
              have hk0 : LY[0]? = some ky := by rw [← hky]; cases LY <;> rfl
              obtain ⟨b', off', hab', hb', d0, -⟩ := (HENS.out (rs' := []) HS12.out).2.cell 0 ky hk0
              have d1 : w12.cell? ⟨b', off', none⟩ = some (.int .i64 ky.key) := d0
              have hle : decide (ky.key ≤ k) = true := decide_eq_true (by omega)
              have hr1 : (0 : Int) < (PY : Int) := by omega
              subst hab'
              clear r0 hky hk0 hb' hrx
              go_quiet (fail)
              go_wp2_with fail
              go_meet
              exact ⟨rfl, _, rfl⟩
            · have hx0 : LX ≠ [] := fun e => by have := HDU.out.lx; rw [e] at this; simp at this; omega
              obtain ⟨kx, hkx⟩ : ∃ e, LX.getLast? = some e := ⟨_, List.getLast?_eq_some_getLast hx0⟩
              have hlx : kx.key < k := (allLt_iff HDU.out.tx.up k).1 hl kx hkx
              clear hl hg hy0 hx0
              have hd : decide ((PX : Int) > 0) = true := decide_eq_true (by omega)
              have hd2 : decide ((0 : Int) < (PX : Int)) = true := decide_eq_true (by omega)
              have hd3 : 0 < PX := h0
              have hd4 : decide (0 < PX) = true := decide_eq_true h0
              obtain ⟨m, hm⟩ : ∃ m, PX = m + 1 := ⟨PX - 1, by omega⟩
              have hkm : LX[m]? = some kx := by rw [List.getLast?_eq_getElem?, HDU.out.lx, hm] at hkx; exact hkx
              obtain ⟨b, off, hab, hb, c0, -⟩ := (HENS.out (rs' := []) HS12.out).1.cell m kx hkm
              have hm1 : IntKind.i64.wrap ((PX : Int) - 1) = (m : Int) := by rw [IntKind.wrap_i64]; omega
              have hm2 : (m : Int) < (PX : Int) := by omega
              have hm3 : (0 : Int) ≤ (m : Int) := by omega
              have hge : decide (kx.key ≥ k) = false := decide_eq_false (by omega)
              have hge2 : decide (k ≤ kx.key) = false := hge
              subst hab
              clear h0 hkx hm hkm hb hlx
              have rd1 : decide ((PY : Int) > 0) = true := decide_eq_true (by omega)
              have rd2 : decide ((0 : Int) < (PY : Int)) = true := decide_eq_true (by omega)
              have rd3 : 0 < PY := r0
              have rd4 : decide (0 < PY) = true := decide_eq_true r0
              have hk0 : LY[0]? = some ky := by rw [← hky]; cases LY <;> rfl
              obtain ⟨b', off', hab', hb', d0, -⟩ := (HENS.out (rs' := []) HS12.out).2.cell 0 ky hk0
              have d1 : w12.cell? ⟨b', off', none⟩ = some (.int .i64 ky.key) := d0
              have hle : decide (ky.key ≤ k) = true := decide_eq_true (by omega)
              have hr1 : (0 : Int) < (PY : Int) := by omega
              subst hab'
              clear r0 hky hk0 hb' hrx
              go_quiet (fail)
              go_wp2_with fail
              go_meet
              exact ⟨rfl, _, rfl⟩
          · have hx0 : LX ≠ [] := fun e => hl (by rw [e]; intro y hy; cases hy)
            obtain ⟨kx, hkx⟩ : ∃ e, LX.getLast? = some e := ⟨_, List.getLast?_eq_some_getLast hx0⟩
            have hlx : k ≤ kx.key := Int.not_lt.1 fun h => hl ((allLt_iff HDU.out.tx.up k).2 fun x hx => by rw [hkx] at hx; cases hx; exact h)
            have h0 : 0 < PX := by rw [← HDU.out.lx]; exact List.length_pos_iff.2 hx0
            clear hl hx0
            have hd : decide ((PX : Int) > 0) = true := decide_eq_true (by omega)
            have hd2 : decide ((0 : Int) < (PX : Int)) = true := decide_eq_true (by omega)
            have hd3 : 0 < PX := h0
            have hd4 : decide (0 < PX) = true := decide_eq_true h0
            obtain ⟨m, hm⟩ : ∃ m, PX = m + 1 := ⟨PX - 1, by omega⟩
            have hkm : LX[m]? = some kx := by rw [List.getLast?_eq_getElem?, HDU.out.lx, hm] at hkx; exact hkx
            obtain ⟨b, off, hab, hb, c0, -⟩ := (HENS.out (rs' := []) HS12.out).1.cell m kx hkm
            have hm1 : IntKind.i64.wrap ((PX : Int) - 1) = (m : Int) := by rw [IntKind.wrap_i64]; omega
            have hm2 : (m : Int) < (PX : Int) := by omega
            have hm3 : (0 : Int) ≤ (m : Int) := by omega
            have hge : decide (kx.key ≥ k) = true := decide_eq_true (by omega)
            have hge2 : decide (k ≤ kx.key) = true := hge
            subst hab
            clear h0 hkx hm hkm hb hlx
            go_quiet (fail)
            go_wp2_with fail
            go_meet
            exact ⟨rfl, _, rfl⟩
        case' rest =>
          obtain ⟨rfl, d13, rfl⟩ := hcut
          have HS13 := Lib.hid (HS12.out.calm (below_drewN (Below.refl _ _) d13))
          generalize w12.drewN d13 = w13 at HS13 ⊢
          clear e0 e1 HS12
          go_wp2_with fail
          refine (HHT.out _).mono ?_
          rintro en w15 ⟨rfl, hb15⟩
          have HS15 := Lib.hid (HS13.out.calm hb15)
          clear hb15 HS13
          go_wp2_with fail
          refine (within_any (most := 60 * (H + 2)) HS15.out.mr (Int.le_refl _) HRD.out.1 HRD.out.2.1 (by have := HRD.out; omega) (by have := HRD.out; omega)).mono ?_
          rintro en w16 ⟨rfl, hb16⟩
          have HS16 := Lib.hid (HS15.out.calm hb16)
          clear hb16 HS15
          go_upto_region 18 with fail
          obtain ⟨q0, q1, -⟩ := HCEL.out (bs' := []) HS16.out
          have hSd := HS16.out.calm (Below.refl _ _).drew
          go_region_held3 (fun w' => w'.cell? ⟨q, 0, none⟩ = some (.slice da N dc) ∧ w'.cell? ⟨q, 1, none⟩ = some (.slice db M dd)) (go_keep) (first
            | (go_at_call 15; refine hSd.dump.mono ?_; rintro en wC ⟨ea, ec, eb, ed, rfl, hsC, -⟩; rw [HNM.out.1, HNM.out.2.1] at hsC ⊢; obtain ⟨q0, q1, -⟩ := HCEL.out (bs' := []) hsC)
            | (go_at_call 22; refine (same_dump B.σ.free HNM.out.2.1 (hsC.slots_of (c := ec) HDU.out.inv HNM.out.1 (by simp)) (hsC.slots_of (c := dc) HDU.out.inv HNM.out.1 (by simp [HR1.out])) (hsC.rows ⟨30, 1, .slice eb M ed, M, u32s B.σ.free⟩ (by simp)) (hsC.rows ⟨30, 1, .slice db M dd, M, u32s B.σ.free⟩ (by simp [HR0.out])) (by have := HNM.out; omega) (by have := HNM.out; omega)).mono ?_; rintro en wD ⟨rfl, hbD⟩; have hsD := hsC.calm hbD; obtain ⟨q0, q1, -⟩ := HCEL.out (bs' := []) hsD))
          all_goals (go_wp2_with fail; go_ret; exact ⟨rfl, hsD.below⟩)
      · have HORD := Lib.hid hord
        obtain ⟨J2, hJ2⟩ : ∃ J2, joinI (PX : Int) (PY : Int) = J2 := ⟨_, rfl⟩
        have hj2 := join_le (l := (PX : Int)) (r := (PY : Int)) (by omega) (by omega) (by have := HSUM.out; have := HLEN.out; omega)
        have HJ2 : Hid (joinI (PX : Int) (PY : Int) = J2 ∧ 0 ≤ J2 ∧ J2 ≤ 64) := ⟨hJ2, by rw [← hJ2]; exact hj2.2, by rw [← hJ2]; exact hj2.1⟩
        clear hJ2 hj2
        have HROOM : Hid ((M : Int) < J2) := by show _ < _; rw [← HJ2.out.1, ← HNM.out.2.1, ← HDU.out.lx, ← HDU.out.ly]; exact hfull
        clear hord hfull
        go_upto_region 11 with fail
        obtain ⟨-, -, e0, e1⟩ := HCEL.out (bs' := []) HS12.out
        go_cut [122] from 94 to 121 (fun s wx => s = .bool false ∧ ∃ d, wx = w12.drewN d)
        case first =>
          rcases Nat.eq_zero_or_pos PX with h0 | h0
          · rcases Nat.eq_zero_or_pos PY with r0 | r0
            · have hd : decide ((PX : Int) > 0) = false := decide_eq_false (by omega)
              have hd2 : decide ((0 : Int) < (PX : Int)) = false := decide_eq_false (by omega)
              have hd3 : ¬ 0 < PX := by omega
              have hd4 : decide (0 < PX) = false := decide_eq_false hd3
              clear h0
              have rd1 : decide ((PY : Int) > 0) = false := decide_eq_false (by omega)
              have rd2 : decide ((0 : Int) < (PY : Int)) = false := decide_eq_false (by omega)
              have rd3 : ¬ 0 < PY := by omega
              have rd4 : decide (0 < PY) = false := decide_eq_false rd3
              clear r0
              go_quiet (fail)
              go_wp2_with fail
              go_meet
              exact ⟨rfl, _, rfl⟩
            · have hy0 : LY ≠ [] := fun e => by have := HDU.out.ly; rw [e] at this; simp at this; omega
              obtain ⟨ky, hky⟩ : ∃ e, LY.head? = some e := ⟨_, List.head?_eq_some_head hy0⟩
              have hrx : k < ky.key := (allGt_iff HDU.out.ty.up k).1 HORD.out.2 ky hky
              clear hy0
              have hd : decide ((PX : Int) > 0) = false := decide_eq_false (by omega)
              have hd2 : decide ((0 : Int) < (PX : Int)) = false := decide_eq_false (by omega)
              have hd3 : ¬ 0 < PX := by omega
              have hd4 : decide (0 < PX) = false := decide_eq_false hd3
              clear h0
              have rd1 : decide ((PY : Int) > 0) = true := decide_eq_true (by omega)
              have rd2 : decide ((0 : Int) < (PY : Int)) = true := decide_eq_true (by omega)
              have rd3 : 0 < PY := r0
              have rd4 : decide (0 < PY) = true := decide_eq_true r0
              have hk0 : LY[0]? = some ky := by rw [← hky]; cases LY <;> rfl
              obtain ⟨b', off', hab', hb', d0, -⟩ := (HENS.out (rs' := []) HS12.out).2.cell 0 ky hk0
              have d1 : w12.cell? ⟨b', off', none⟩ = some (.int .i64 ky.key) := d0
              have hle : decide (ky.key ≤ k) = false := decide_eq_false (by omega)
              have hr1 : (0 : Int) < (PY : Int) := by omega
              subst hab'
              clear r0 hky hk0 hb' hrx
              go_quiet (fail)
              go_wp2_with fail
              go_meet
              exact ⟨rfl, _, rfl⟩
          · have hx0 : LX ≠ [] := fun e => by have := HDU.out.lx; rw [e] at this; simp at this; omega
            obtain ⟨kx, hkx⟩ : ∃ e, LX.getLast? = some e := ⟨_, List.getLast?_eq_some_getLast hx0⟩
            have hlx : kx.key < k := (allLt_iff HDU.out.tx.up k).1 HORD.out.1 kx hkx
            clear hx0
            rcases Nat.eq_zero_or_pos PY with r0 | r0
            · have hd : decide ((PX : Int) > 0) = true := decide_eq_true (by omega)
              have hd2 : decide ((0 : Int) < (PX : Int)) = true := decide_eq_true (by omega)
              have hd3 : 0 < PX := h0
              have hd4 : decide (0 < PX) = true := decide_eq_true h0
              obtain ⟨m, hm⟩ : ∃ m, PX = m + 1 := ⟨PX - 1, by omega⟩
              have hkm : LX[m]? = some kx := by rw [List.getLast?_eq_getElem?, HDU.out.lx, hm] at hkx; exact hkx
              obtain ⟨b, off, hab, hb, c0, -⟩ := (HENS.out (rs' := []) HS12.out).1.cell m kx hkm
              have hm1 : IntKind.i64.wrap ((PX : Int) - 1) = (m : Int) := by rw [IntKind.wrap_i64]; omega
              have hm2 : (m : Int) < (PX : Int) := by omega
              have hm3 : (0 : Int) ≤ (m : Int) := by omega
              have hge : decide (kx.key ≥ k) = false := decide_eq_false (by omega)
              have hge2 : decide (k ≤ kx.key) = false := hge
              subst hab
              clear h0 hkx hm hkm hb hlx
              have rd1 : decide ((PY : Int) > 0) = false := decide_eq_false (by omega)
              have rd2 : decide ((0 : Int) < (PY : Int)) = false := decide_eq_false (by omega)
              have rd3 : ¬ 0 < PY := by omega
              have rd4 : decide (0 < PY) = false := decide_eq_false rd3
              clear r0
              go_quiet (fail)
              go_wp2_with fail
              go_meet
              exact ⟨rfl, _, rfl⟩
            · have hy0 : LY ≠ [] := fun e => by have := HDU.out.ly; rw [e] at this; simp at this; omega
              obtain ⟨ky, hky⟩ : ∃ e, LY.head? = some e := ⟨_, List.head?_eq_some_head hy0⟩
              have hrx : k < ky.key := (allGt_iff HDU.out.ty.up k).1 HORD.out.2 ky hky
              clear hy0
              have hd : decide ((PX : Int) > 0) = true := decide_eq_true (by omega)
              have hd2 : decide ((0 : Int) < (PX : Int)) = true := decide_eq_true (by omega)
              have hd3 : 0 < PX := h0
              have hd4 : decide (0 < PX) = true := decide_eq_true h0
              obtain ⟨m, hm⟩ : ∃ m, PX = m + 1 := ⟨PX - 1, by omega⟩
              have hkm : LX[m]? = some kx := by rw [List.getLast?_eq_getElem?, HDU.out.lx, hm] at hkx; exact hkx
              obtain ⟨b, off, hab, hb, c0, -⟩ := (HENS.out (rs' := []) HS12.out).1.cell m kx hkm
              have hm1 : IntKind.i64.wrap ((PX : Int) - 1) = (m : Int) := by rw [IntKind.wrap_i64]; omega
              have hm2 : (m : Int) < (PX : Int) := by omega
              have hm3 : (0 : Int) ≤ (m : Int) := by omega
              have hge : decide (kx.key ≥ k) = false := decide_eq_false (by omega)
              have hge2 : decide (k ≤ kx.key) = false := hge
              subst hab
              clear h0 hkx hm hkm hb hlx
              have rd1 : decide ((PY : Int) > 0) = true := decide_eq_true (by omega)
              have rd2 : decide ((0 : Int) < (PY : Int)) = true := decide_eq_true (by omega)
              have rd3 : 0 < PY := r0
              have rd4 : decide (0 < PY) = true := decide_eq_true r0
              have hk0 : LY[0]? = some ky := by rw [← hky]; cases LY <;> rfl
              obtain ⟨b', off', hab', hb', d0, -⟩ := (HENS.out (rs' := []) HS12.out).2.cell 0 ky hk0
              have d1 : w12.cell? ⟨b', off', none⟩ = some (.int .i64 ky.key) := d0
              have hle : decide (ky.key ≤ k) = false := decide_eq_false (by omega)
              have hr1 : (0 : Int) < (PY : Int) := by omega
              subst hab'
              clear r0 hky hk0 hb' hrx
              go_quiet (fail)
              go_wp2_with fail
              go_meet
              exact ⟨rfl, _, rfl⟩
        case' rest =>
          obtain ⟨rfl, d13, rfl⟩ := hcut
          have HS13 := Lib.hid (HS12.out.calm (below_drewN (Below.refl _ _) d13))
          generalize w12.drewN d13 = w13 at HS13 ⊢
          clear e0 e1 HS12
          have hms : decide ((M : Int) < J2) = true := decide_eq_true (by have := HROOM.out; omega)
          have HRJ : Hid (∀ wx, Calls Tryz.prog 29 #[.int .i64 (PX : Int), .int .i64 (PY : Int)] wx (Calm wx (.int .i64 J2))) := fun wx => by rw [← HJ2.out.1]; exact refJoin_any _ _ _ ⟨by omega, by omega⟩ ⟨by omega, by omega⟩
          go_upto_region 13 with fail
          obtain ⟨q0, q1, -⟩ := HCEL.out (bs' := []) HS13.out
          have hSd := HS13.out.calm (Below.refl _ _).drew
          go_region_held3 (fun w' => w'.cell? ⟨q, 0, none⟩ = some (.slice da N dc) ∧ w'.cell? ⟨q, 1, none⟩ = some (.slice db M dd)) (go_keep) ((go_at_call 29; refine (HRJ.out _).mono ?_; rintro en wA ⟨rfl, hbA⟩; have hSA := hSd.calm hbA; obtain ⟨q0, q1, -⟩ := HCEL.out (bs' := []) hSA))
          have HS14 := Lib.hid hSA
          clear q0 q1 HS13 hSd hSA hms hbA
          rename World => w14
          go_wp2_with fail
          refine (HHT.out _).mono ?_
          rintro en w15 ⟨rfl, hb15⟩
          have HS15 := Lib.hid (HS14.out.calm hb15)
          clear hb15 HS14
          go_wp2_with fail
          refine (within_any (most := 60 * (H + 2)) HS15.out.mr (Int.le_refl _) HRD.out.1 HRD.out.2.1 (by have := HRD.out; omega) (by have := HRD.out; omega)).mono ?_
          rintro en w16 ⟨rfl, hb16⟩
          have HS16 := Lib.hid (HS15.out.calm hb16)
          clear hb16 HS15
          go_upto_region 18 with fail
          obtain ⟨q0, q1, -⟩ := HCEL.out (bs' := []) HS16.out
          have hSd := HS16.out.calm (Below.refl _ _).drew
          go_region_held3 (fun w' => w'.cell? ⟨q, 0, none⟩ = some (.slice da N dc) ∧ w'.cell? ⟨q, 1, none⟩ = some (.slice db M dd)) (go_keep) (first
            | (go_at_call 15; refine hSd.dump.mono ?_; rintro en wC ⟨ea, ec, eb, ed, rfl, hsC, -⟩; rw [HNM.out.1, HNM.out.2.1] at hsC ⊢; obtain ⟨q0, q1, -⟩ := HCEL.out (bs' := []) hsC)
            | (go_at_call 22; refine (same_dump B.σ.free HNM.out.2.1 (hsC.slots_of (c := ec) HDU.out.inv HNM.out.1 (by simp)) (hsC.slots_of (c := dc) HDU.out.inv HNM.out.1 (by simp [HR1.out])) (hsC.rows ⟨30, 1, .slice eb M ed, M, u32s B.σ.free⟩ (by simp)) (hsC.rows ⟨30, 1, .slice db M dd, M, u32s B.σ.free⟩ (by simp [HR0.out])) (by have := HNM.out; omega) (by have := HNM.out; omega)).mono ?_; rintro en wD ⟨rfl, hbD⟩; have hsD := hsC.calm hbD; obtain ⟨q0, q1, -⟩ := HCEL.out (bs' := []) hsD))
          all_goals (go_wp2_with fail; go_ret; exact ⟨rfl, hsD.below⟩)
      · have HORD := Lib.hid hord
        obtain ⟨J2, hJ2⟩ : ∃ J2, joinI (PX : Int) (PY : Int) = J2 := ⟨_, rfl⟩
        have hj2 := join_le (l := (PX : Int)) (r := (PY : Int)) (by omega) (by omega) (by have := HSUM.out; have := HLEN.out; omega)
        have HJ2 : Hid (joinI (PX : Int) (PY : Int) = J2 ∧ 0 ≤ J2 ∧ J2 ≤ 64) := ⟨hJ2, by rw [← hJ2]; exact hj2.2, by rw [← hJ2]; exact hj2.1⟩
        clear hJ2 hj2
        have HROOM : Hid (J2 ≤ (M : Int)) := by show _ ≤ _; rw [← HJ2.out.1, ← HNM.out.2.1, ← HDU.out.lx, ← HDU.out.ly]; exact hroom
        have HINV : Hid (B.Inv [] (hof [X, Y, j])) := by
          have := hgot.inv
          rw [hof_pls] at this
          exact this
        have HBG : Hid (B.Agg ∧ B.σ.cap = N ∧ KeptS N A.sl B.sl) := ⟨hgot.agg, hgot.kept.cap.trans HNM.out.1, kept_keptS2 hgot.kept hgot.gen⟩
        have HON : Hid (∀ z ∈ [X, Y, j], z = 0 ∨ B.σ.on z = true) := fun z hz => by
          simp at hz
          rcases hz with rfl | rfl | rfl
          · exact HDU.out.tx.sub.idx.imp_right (hgot.kept.on _)
          · exact HDU.out.ty.sub.idx.imp_right (hgot.kept.on _)
          · exact hgot.sub.idx
        have hup : Up (LX ++ ⟨k, ev⟩ :: LY) := List.pairwise_append.2 ⟨HDU.out.tx.up, List.pairwise_cons.2 ⟨fun y hy => hord.2 y hy, HDU.out.ty.up⟩, fun u hu v hv => (List.mem_cons.1 hv).elim (fun e => by rw [e]; exact hord.1 u hu) (fun h => Int.lt_trans (hord.1 u hu) (hord.2 v h))⟩
        have HTJ := Lib.hid (hgot.tree hup)
        have HJI : Hid (j < 4294967296) := hgot.idx
        have hj0 : j ≠ 0 := fun e => by
          have h1 := HTJ.out.size
          have h2 := HTJ.out.sub
          rw [e] at h2
          cases h2 with
          | nil => rw [List.length_append, List.length_cons] at h1; simp [Tr.size] at h1
          | node _ _ _ h3 _ _ _ => exact h3 rfl
        have HJON : Hid (B.σ.on j = true) := (hgot.sub.idx).resolve_left hj0
        have HBAL : Hid (Proofs.YtckkmmdibgoajaaGreat.bal (PX : Int) (PY : Int) = true → (B.nd j).left = X ∧ (B.nd j).right = Y ∧ B.σ.free.length + 1 = M) := by
          have := hbal
          rw [HDU.out.lx, HDU.out.ly, HNM.out.2.1] at this
          exact this
        clear hord hroom hgot hbal hup hj0
        go_upto_region 11 with fail
        obtain ⟨-, -, e0, e1⟩ := HCEL.out (bs' := []) HS12.out
        go_cut [122] from 94 to 121 (fun s wx => s = .bool false ∧ ∃ d, wx = w12.drewN d)
        case first =>
          rcases Nat.eq_zero_or_pos PX with h0 | h0
          · rcases Nat.eq_zero_or_pos PY with r0 | r0
            · have hd : decide ((PX : Int) > 0) = false := decide_eq_false (by omega)
              have hd2 : decide ((0 : Int) < (PX : Int)) = false := decide_eq_false (by omega)
              have hd3 : ¬ 0 < PX := by omega
              have hd4 : decide (0 < PX) = false := decide_eq_false hd3
              clear h0
              have rd1 : decide ((PY : Int) > 0) = false := decide_eq_false (by omega)
              have rd2 : decide ((0 : Int) < (PY : Int)) = false := decide_eq_false (by omega)
              have rd3 : ¬ 0 < PY := by omega
              have rd4 : decide (0 < PY) = false := decide_eq_false rd3
              clear r0
              go_quiet (fail)
              go_wp2_with fail
              go_meet
              exact ⟨rfl, _, rfl⟩
            · have hy0 : LY ≠ [] := fun e => by have := HDU.out.ly; rw [e] at this; simp at this; omega
              obtain ⟨ky, hky⟩ : ∃ e, LY.head? = some e := ⟨_, List.head?_eq_some_head hy0⟩
              have hrx : k < ky.key := (allGt_iff HDU.out.ty.up k).1 HORD.out.2 ky hky
              clear hy0
              have hd : decide ((PX : Int) > 0) = false := decide_eq_false (by omega)
              have hd2 : decide ((0 : Int) < (PX : Int)) = false := decide_eq_false (by omega)
              have hd3 : ¬ 0 < PX := by omega
              have hd4 : decide (0 < PX) = false := decide_eq_false hd3
              clear h0
              have rd1 : decide ((PY : Int) > 0) = true := decide_eq_true (by omega)
              have rd2 : decide ((0 : Int) < (PY : Int)) = true := decide_eq_true (by omega)
              have rd3 : 0 < PY := r0
              have rd4 : decide (0 < PY) = true := decide_eq_true r0
              have hk0 : LY[0]? = some ky := by rw [← hky]; cases LY <;> rfl
              obtain ⟨b', off', hab', hb', d0, -⟩ := (HENS.out (rs' := []) HS12.out).2.cell 0 ky hk0
              have d1 : w12.cell? ⟨b', off', none⟩ = some (.int .i64 ky.key) := d0
              have hle : decide (ky.key ≤ k) = false := decide_eq_false (by omega)
              have hr1 : (0 : Int) < (PY : Int) := by omega
              subst hab'
              clear r0 hky hk0 hb' hrx
              go_quiet (fail)
              go_wp2_with fail
              go_meet
              exact ⟨rfl, _, rfl⟩
          · have hx0 : LX ≠ [] := fun e => by have := HDU.out.lx; rw [e] at this; simp at this; omega
            obtain ⟨kx, hkx⟩ : ∃ e, LX.getLast? = some e := ⟨_, List.getLast?_eq_some_getLast hx0⟩
            have hlx : kx.key < k := (allLt_iff HDU.out.tx.up k).1 HORD.out.1 kx hkx
            clear hx0
            rcases Nat.eq_zero_or_pos PY with r0 | r0
            · have hd : decide ((PX : Int) > 0) = true := decide_eq_true (by omega)
              have hd2 : decide ((0 : Int) < (PX : Int)) = true := decide_eq_true (by omega)
              have hd3 : 0 < PX := h0
              have hd4 : decide (0 < PX) = true := decide_eq_true h0
              obtain ⟨m, hm⟩ : ∃ m, PX = m + 1 := ⟨PX - 1, by omega⟩
              have hkm : LX[m]? = some kx := by rw [List.getLast?_eq_getElem?, HDU.out.lx, hm] at hkx; exact hkx
              obtain ⟨b, off, hab, hb, c0, -⟩ := (HENS.out (rs' := []) HS12.out).1.cell m kx hkm
              have hm1 : IntKind.i64.wrap ((PX : Int) - 1) = (m : Int) := by rw [IntKind.wrap_i64]; omega
              have hm2 : (m : Int) < (PX : Int) := by omega
              have hm3 : (0 : Int) ≤ (m : Int) := by omega
              have hge : decide (kx.key ≥ k) = false := decide_eq_false (by omega)
              have hge2 : decide (k ≤ kx.key) = false := hge
              subst hab
              clear h0 hkx hm hkm hb hlx
              have rd1 : decide ((PY : Int) > 0) = false := decide_eq_false (by omega)
              have rd2 : decide ((0 : Int) < (PY : Int)) = false := decide_eq_false (by omega)
              have rd3 : ¬ 0 < PY := by omega
              have rd4 : decide (0 < PY) = false := decide_eq_false rd3
              clear r0
              go_quiet (fail)
              go_wp2_with fail
              go_meet
              exact ⟨rfl, _, rfl⟩
            · have hy0 : LY ≠ [] := fun e => by have := HDU.out.ly; rw [e] at this; simp at this; omega
              obtain ⟨ky, hky⟩ : ∃ e, LY.head? = some e := ⟨_, List.head?_eq_some_head hy0⟩
              have hrx : k < ky.key := (allGt_iff HDU.out.ty.up k).1 HORD.out.2 ky hky
              clear hy0
              have hd : decide ((PX : Int) > 0) = true := decide_eq_true (by omega)
              have hd2 : decide ((0 : Int) < (PX : Int)) = true := decide_eq_true (by omega)
              have hd3 : 0 < PX := h0
              have hd4 : decide (0 < PX) = true := decide_eq_true h0
              obtain ⟨m, hm⟩ : ∃ m, PX = m + 1 := ⟨PX - 1, by omega⟩
              have hkm : LX[m]? = some kx := by rw [List.getLast?_eq_getElem?, HDU.out.lx, hm] at hkx; exact hkx
              obtain ⟨b, off, hab, hb, c0, -⟩ := (HENS.out (rs' := []) HS12.out).1.cell m kx hkm
              have hm1 : IntKind.i64.wrap ((PX : Int) - 1) = (m : Int) := by rw [IntKind.wrap_i64]; omega
              have hm2 : (m : Int) < (PX : Int) := by omega
              have hm3 : (0 : Int) ≤ (m : Int) := by omega
              have hge : decide (kx.key ≥ k) = false := decide_eq_false (by omega)
              have hge2 : decide (k ≤ kx.key) = false := hge
              subst hab
              clear h0 hkx hm hkm hb hlx
              have rd1 : decide ((PY : Int) > 0) = true := decide_eq_true (by omega)
              have rd2 : decide ((0 : Int) < (PY : Int)) = true := decide_eq_true (by omega)
              have rd3 : 0 < PY := r0
              have rd4 : decide (0 < PY) = true := decide_eq_true r0
              have hk0 : LY[0]? = some ky := by rw [← hky]; cases LY <;> rfl
              obtain ⟨b', off', hab', hb', d0, -⟩ := (HENS.out (rs' := []) HS12.out).2.cell 0 ky hk0
              have d1 : w12.cell? ⟨b', off', none⟩ = some (.int .i64 ky.key) := d0
              have hle : decide (ky.key ≤ k) = false := decide_eq_false (by omega)
              have hr1 : (0 : Int) < (PY : Int) := by omega
              subst hab'
              clear r0 hky hk0 hb' hrx
              go_quiet (fail)
              go_wp2_with fail
              go_meet
              exact ⟨rfl, _, rfl⟩
        case' rest =>
          obtain ⟨rfl, d13, rfl⟩ := hcut
          have HS13 := Lib.hid (HS12.out.calm (below_drewN (Below.refl _ _) d13))
          generalize w12.drewN d13 = w13 at HS13 ⊢
          clear e0 e1 HS12
          have hms : decide ((M : Int) < J2) = false := decide_eq_false (by have := HROOM.out; omega)
          have HRJ : Hid (∀ wx, Calls Tryz.prog 29 #[.int .i64 (PX : Int), .int .i64 (PY : Int)] wx (Calm wx (.int .i64 J2))) := fun wx => by rw [← HJ2.out.1]; exact refJoin_any _ _ _ ⟨by omega, by omega⟩ ⟨by omega, by omega⟩
          go_upto_region 13 with fail
          obtain ⟨q0, q1, -⟩ := HCEL.out (bs' := []) HS13.out
          have hSd := HS13.out.calm (Below.refl _ _).drew
          go_region_held3 (fun w' => w'.cell? ⟨q, 0, none⟩ = some (.slice da N dc) ∧ w'.cell? ⟨q, 1, none⟩ = some (.slice db M dd)) (go_keep) ((go_at_call 29; refine (HRJ.out _).mono ?_; rintro en wA ⟨rfl, hbA⟩; have hSA := hSd.calm hbA; obtain ⟨q0, q1, -⟩ := HCEL.out (bs' := []) hSA))
          have HS14 := Lib.hid hSA
          clear q0 q1 HS13 hSd hSA hms hbA
          rename World => w14
          go_wp2_with fail
          refine (HHT.out _).mono ?_
          rintro en w15 ⟨rfl, hb15⟩
          have HS15 := Lib.hid (HS14.out.calm hb15)
          clear hb15 HS14
          go_wp2_with fail
          refine (within_any (most := 60 * (H + 2)) HS15.out.mr (Int.le_refl _) HRD.out.1 HRD.out.2.1 (by have := HRD.out; omega) (by have := HRD.out; omega)).mono ?_
          rintro en w16 ⟨rfl, hb16⟩
          have HS16 := Lib.hid (HS15.out.calm hb16)
          clear hb16 HS15
          go_upto_region 19 with fail
          have HENB : Hid (∀ wx, Below w16.heap.size w16 wx → EnsAt wx aX LX ∧ EnsAt wx aY LY) := fun wx hb => HENS.out (rs' := []) (HS16.out.calm hb)
          have HKEEP : Hid (∀ wx, Below w16.heap.size w16 wx → Below w16.heap.size w16 wx ∧ wx.cell? ⟨ge, 0, none⟩ = some (.int .i64 k) ∧ wx.cell? ⟨ge, 1, none⟩ = some (.int .i64 ev)) := fun wx hb => by
            obtain ⟨-, -, e0, e1⟩ := HCEL.out (bs' := []) (HS16.out.calm hb)
            exact ⟨hb, e0, e1⟩
          have HTRN : Hid (∀ (wa wb : World) (l : List En) (v : Value), ESt wa.heap.size wa l v wb → Below w16.heap.size w16 wa → Below w16.heap.size w16 wb ∧ w16.heap.size ≤ wa.heap.size) := fun wa wb l v h hb => ⟨hb.trans (h.below.mono hb.size), hb.size⟩
          obtain ⟨LN, hLN⟩ : ∃ LN, (LX ++ ⟨k, ev⟩ :: LY).length = LN := ⟨_, rfl⟩
          have HL2 : Hid ((LX ++ ⟨k, ev⟩ :: LY).length = LN ∧ LN ≤ 65536) := ⟨hLN, by rw [← hLN, List.length_append, List.length_cons, HDU.out.lx, HDU.out.ly]; omega⟩
          have hnil0 : ([] : List En).length + PX ≤ 100000000 := by simp; omega
          have hnil1 : LX.length ≤ 100000000 := by rw [HDU.out.lx]; omega
          have hnil2 : (LX ++ [(⟨k, ev⟩ : En)]).length + PY ≤ 100000000 := by rw [List.length_append, HDU.out.lx]; simp; omega
          have HB0 : Hid (Below w16.heap.size w16 w16.drew) := (Below.refl _ _).drew
          have hB0 := HB0.out
          obtain ⟨-, -, e0, e1⟩ := HCEL.out (bs' := []) (HS16.out.calm hB0)
          clear hLN
          go_cut [28] from 160 to 167 (fun s wx => ∃ (va : Option Addr) (vc : Nat), s = .slice va LN vc ∧ wx.ownsRow w16.heap.size 25 2 (.slice va LN vc) LN (ensV (LX ++ ⟨k, ev⟩ :: LY)) ∧ Below w16.heap.size w16 wx)
          case first =>
            go_region_held3 (fun wx => Below w16.heap.size w16 wx ∧ wx.cell? ⟨ge, 0, none⟩ = some (.int .i64 k) ∧ wx.cell? ⟨ge, 1, none⟩ = some (.int .i64 ev)) ((refine HKEEP.out _ ?_; repeat (first | with_reducible assumption | with_reducible exact Below.refl _ _ | with_reducible refine Below.drew ?_ | with_reducible refine below_alT ?_ _))) (first
              | (refine step_append_ens rfl (.const (.slice none 0 0)) (.tmp 160) rfl (ESt.start _ rfl) rfl rfl aX cX PX HDU.out.lx rfl (HENB.out _ (by repeat (first | with_reducible assumption | with_reducible exact Below.refl _ _ | with_reducible refine Below.drew ?_ | with_reducible refine below_alT ?_ _))).1 hnil0 ?_; intro v5 w5 hc5; rw [List.nil_append] at hc5; obtain ⟨hB5, hZ5⟩ := HTRN.out _ _ _ _ hc5 (by repeat (first | with_reducible assumption | with_reducible exact Below.refl _ _ | with_reducible refine Below.drew ?_ | with_reducible refine below_alT ?_ _)); obtain ⟨-, e0, e1⟩ := HKEEP.out _ hB5)
              | (refine step_append_en rfl (.tmp 161) (.tmp 163) rfl (hc5.from (below_newL _ _) rfl) rfl rfl ⟨k, ev⟩ _ rfl (cell_newE _ _ _) hnil1 ?_; intro v6 w6 hc6 hg6; have hB6 := (HTRN.out _ _ _ _ hc6 (by repeat (first | with_reducible assumption | with_reducible exact Below.refl _ _ | with_reducible refine Below.drew ?_ | with_reducible refine below_alT ?_ _))).1; obtain ⟨-, e0, e1⟩ := HKEEP.out _ hB6)
              | (refine step_append_en rfl (.tmp 161) (.tmp 163) rfl hc5 rfl rfl ⟨k, ev⟩ _ rfl (fun jj u hu => (hc5.below.cell (by simp [Addr.add]; split <;> exact Nat.lt_succ_self _)).trans (cell_newE _ ⟨k, ev⟩ _ jj u hu)) hnil1 ?_; intro v6 w6 hc6 hg6; have hB6 := (HTRN.out _ _ _ _ hc6 (by repeat (first | with_reducible assumption | with_reducible exact Below.refl _ _ | with_reducible refine Below.drew ?_ | with_reducible refine below_alT ?_ _))).1; obtain ⟨-, e0, e1⟩ := HKEEP.out _ hB6)
              | (refine step_append_ens rfl (.tmp 164) (.tmp 165) rfl hc6 rfl rfl aY cY PY HDU.out.ly rfl (HENB.out _ hB6).2 hnil2 ?_; intro v7 w7 hc7; rw [List.append_assoc] at hc7; have hB7 := (HTRN.out _ _ _ _ hc7 (by repeat (first | with_reducible assumption | with_reducible exact Below.refl _ _ | with_reducible refine Below.drew ?_ | with_reducible refine below_alT ?_ _))).1; obtain ⟨-, e0, e1⟩ := HKEEP.out _ hB7))
            all_goals (go_wp2_with fail; go_meet; obtain ⟨xa, xc, hv7⟩ := hc7.val; have hr7 := hc7.row; rw [hv7] at hr7 ⊢; have hl7 : (LX ++ ([(⟨k, ev⟩ : En)] ++ LY)).length = LN := HL2.out.1; rw [hl7] at hr7 ⊢; exact ⟨xa, xc, rfl, row_mono hr7 hZ5, hB7⟩)
          case' rest =>
            rename World => w19
            obtain ⟨va, vc, rfl, hr19, hb19⟩ := hcut
            have HS19 := Lib.hid (HS16.out.row hb19 hr19)
            clear hr19 hb19 HS16 HENB HKEEP HTRN HB0 hB0 e0 e1 hnil0 hnil1 hnil2
            go_wp2_with fail
            refine (refBalanced_any (PX : Int) (PY : Int) w19 (by omega) (by omega) (by omega) (by omega)).mono ?_
            rintro en w20 ⟨rfl, hw20⟩
            obtain rfl : w19 = w20 := hw20.symm
            obtain ⟨bb, hbb⟩ : ∃ b, Proofs.YtckkmmdibgoajaaGreat.bal (PX : Int) (PY : Int) = b := ⟨_, rfl⟩
            rw [hbb] at HBAL ⊢
            clear hbb
            go_upto_if 171 with fail
            go_cut [29, 30] from 172 to 196 (fun _ _ wx => ∃ rdx, Scn I w.heap.size w wx (.pointer (some pa)) B rdx (⟨25, 2, .slice va LN vc, LN, ensV (LX ++ ⟨k, ev⟩ :: LY)⟩ :: rs) [(q, .cells #[.slice da N dc, .slice db M dd] 41 (0, 0)), (ge, .cells #[.int .i64 k, .int .i64 ev] 25 (0, 0))])
            case first =>
              cases bb with
              | false =>
                go_wp2_with fail
                go_meet
                exact ⟨rd, HS19.out⟩
              | true =>
                obtain ⟨hbl, hbr, hbf⟩ := HBAL.out rfl
                have HBF := Lib.hid hbf
                have HND : Hid (∃ x0 x1 x2 x3 x4 x5, ndRow (B.nd j) = #[Value.int .i64 x0, .int .i64 x1, .int .u32 (X : Int), .int .u32 (Y : Int), .int .i64 x2, .int .i64 x3, .int .i64 x4, .int .i64 x5]) := ⟨(B.nd j).key, (B.nd j).val, (B.nd j).size, (B.nd j).sum, (B.nd j).mn, (B.nd j).mx, by unfold ndRow; rw [hbl, hbr]⟩
                clear hbl hbr hbf
                go_wp2_with fail
                refine (HS19.out.node HRD.out.1 (by have := HRD.out; omega) HJI.out HJON.out).mono ?_
                rintro en w21 ⟨rfl, hs21⟩
                obtain ⟨x0, x1, x2, x3, x4, x5, hnd⟩ := HND.out
                rw [hnd]
                have hs22 := hs21.box #[Value.int .i64 x0, .int .i64 x1, .int .u32 (X : Int), .int .u32 (Y : Int), .int .i64 x2, .int .i64 x3, .int .i64 x4, .int .i64 x5] 64
                clear hs21 hnd
                go_upto_region 22 with fail
                generalize w21.alloc (.cells #[Value.int .i64 x0, .int .i64 x1, .int .u32 (X : Int), .int .u32 (Y : Int), .int .i64 x2, .int .i64 x3, .int .i64 x4, .int .i64 x5] 64) = w22 at hs22 ⊢
                generalize w21.heap.size = gz at hs22 ⊢
                have HS22 := Lib.hid hs22
                have hz := (hs22.boxes (gz, _) (List.mem_cons_self ..)).2
                have z2 : w22.cell? ⟨gz, 2, none⟩ = some (.int .u32 (X : Int)) := by rw [cell_of_row _ _ _ _ _ _ hz]; rfl
                have z3 : w22.cell? ⟨gz, 3, none⟩ = some (.int .u32 (Y : Int)) := by rw [cell_of_row _ _ _ _ _ _ hz]; rfl
                obtain ⟨q0, q1, -⟩ := HCEL.out (bs' := [_]) hs22
                have HFREE : Hid (∀ dq, Calls Tryz.prog 20 #[.pointer (some pa)] (w22.drewN dq) (Quiet (w22.drewN dq) (.int .i64 (B.σ.free.length : Int)))) := fun dq => by
                  obtain ⟨F1, f1, f2, f3⟩ := (HS22.out.calm (below_drewN (Below.refl _ _) dq)).mr.has
                  exact I.freeN _ _ _ _ _ f1
                obtain ⟨FB, hFB⟩ : ∃ f, B.σ.free.length = f := ⟨_, rfl⟩
                rw [hFB] at HFREE HBF
                have hfm : IntKind.i64.wrap ((M : Int) - 1) = (FB : Int) := by rw [IntKind.wrap_i64]; have := HBF.out; have := HNM.out; omega
                have hxx : ((X : Int) != (X : Int)) = false := by simp
                have hyy : ((Y : Int) != (Y : Int)) = false := by simp
                have hff : ((FB : Int) != (FB : Int)) = false := by simp
                clear hs22 hz hFB
                go_quiet ((go_at_call 20; exact Calls.quiet_of (HFREE.out _)))
                go_wp2_with fail
                go_meet
                exact ⟨rd + 1, (HS22.out.less (List.Sublist.refl _) (List.sublist_cons_self _ _)).calm (below_drewN (Below.refl _ _) _)⟩
            case' rest =>
              rename World => w23
              obtain ⟨rdx, hs23⟩ := hcut
              have HS23 := Lib.hid hs23
              clear hs23 HS19
              go_upto_region 24 with fail
              obtain ⟨q0, q1, -⟩ := HCEL.out (bs' := []) HS23.out
              have hSd := HS23.out.calm (Below.refl _ _).drew
              have HWXY : Hid (∀ y ∈ LX ++ (⟨k, ev⟩ : En) :: LY, i64R y.key ∧ i64R y.val) := fun y hy => (List.mem_append.1 hy).elim (HDU.out.wx y) fun h => (List.mem_cons.1 h).elim (fun e => by rw [e]; exact ⟨HKK.out, HEK.out.2⟩) (HDU.out.wy y)
              go_region_held3 (fun w' => w'.cell? ⟨q, 0, none⟩ = some (.slice da N dc) ∧ w'.cell? ⟨q, 1, none⟩ = some (.slice db M dd)) (go_keep) (first
                | (go_at_call 36; refine (tree13_any hSd HINV.out HTJ.out (ens_row (B := w.heap.size) (c := vc) HL2.out.1 (hSd.rows _ (List.mem_cons_self ..)) HWXY.out) HL2.out.1 HL2.out.2).mono ?_; rintro en w7 ⟨rfl, hb7⟩; have hs7 := hSd.calm hb7; obtain ⟨q0, q1, -⟩ := HCEL.out (bs' := []) hs7)
                | (go_at_call 15; refine hs7.dump.mono ?_; rintro en wC ⟨ea, ec, eb, ed, rfl, hsC, -⟩; rw [HBG.out.2.1] at hsC ⊢; obtain ⟨q0, q1, -⟩ := HCEL.out (bs' := []) hsC)
                | (go_at_call 25; refine (kept_any (hsC.slots_of (c := dc) HDU.out.inv HNM.out.1 (by simp [HR1.out])) (hsC.slots_of (c := ec) HINV.out HBG.out.2.1 (by simp)) HBG.out.2.2 (by have := HNM.out; omega)).mono ?_; rintro en wD ⟨rfl, hbD⟩; have hsD := hsC.calm hbD; obtain ⟨q0, q1, -⟩ := HCEL.out (bs' := []) hsD)
                | (go_at_call 21; refine ((hsD.box _ _).sound HCHK.out HINV.out HBG.out.1 (u3_at _ _ X Y j HXI.out.1 HXI.out.2 HJI.out) (L := 3) rfl (by decide) HON.out).mono ?_; rintro en wE ⟨rfl, hbE⟩; have hsE := (hsD.box _ _).calm hbE; obtain ⟨q0, q1, -⟩ := HCEL.out (bs' := [_]) hsE))
              all_goals (go_wp2_with fail; go_ret; exact ⟨rfl, hsE.below⟩)
end Go.Proofs.YtckkmmdibgoajaaGreat
