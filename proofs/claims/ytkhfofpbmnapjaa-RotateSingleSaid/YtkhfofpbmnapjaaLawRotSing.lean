/- RotateSingle over contracts. -/
import Derived.Test.YtkhfofpbmnapjaaRotOrd
import Derived.Test.YtkhfofpbmnapjaaStepsIn
import Derived.Test.YtkhfofpbmnapjaaBox8
import Derived.Test.YtkhfofpbmnapjaaSameDump
import Derived.Test.YtkhfofpbmnapjaaRefKept
import Derived.Test.YtkhfofpbmnapjaaDp3
set_option linter.unusedVariables false
set_option linter.unusedSimpArgs false
namespace Go.Proofs.Ytkhfofpbmnapjaa
open Go.RowKit
theorem nz_onS {C : Ar} {i : Nat} (h : C.σ.on i = true) : C.nz i = C.nd i := by unfold Ar.nz; rw [h]; rfl
theorem isB_trueS {x e : Nd} {l r : Nat} (h : isNd x e l r) : isB x e l r = true := by
  obtain ⟨h1, h2, h3, h4⟩ := h
  unfold isB
  simp [h1, h2, h3, h4]
theorem on_ltS {C : Ar} {held : Nat → Nat} (hC : C.Inv [] held) {x : Nat} (h : C.σ.on x = true) : x < 4294967296 := by
  have h1 := hC.ok.on x h
  have h2 := hC.ok.cap2
  omega
theorem new_fresh {A B : Ar} {j : Nat} (h : NewIn A B j) : (B.σ.on j && !A.σ.on j) = true := by rw [h.1, h.2]; rfl
theorem rsing0 {A B : Ar} {held held' : Nat → Nat} {i j : Nat} (hA : A.Inv [] held) (hB : B.Inv [] held') (hf : rform A 0 i = true) (hn : RNodes A B 0 i j) :
    (isB (B.nz j) (A.nz (A.nz i).right) (B.nz j).left (A.nz (A.nz i).right).right = true ∧ isB (B.nz (B.nz j).left) (A.nz i) (A.nz i).left (A.nz (A.nz i).right).left = true ∧ (B.σ.on (B.nz j).left && !A.σ.on (B.nz j).left) = true) ∧ (B.σ.on j && !A.σ.on j) = true ∧ (A.nz i).right < 4294967296 ∧ (B.nz j).left < 4294967296 ∧ j < 4294967296 := by
  have hon := rform_on hf
  have hr0 : (A.nd i).right ≠ 0 := by unfold rform at hf; rw [hon] at hf; simpa using hf
  have hr := (hA.child i hon).2.resolve_left hr0
  obtain ⟨z, n1, n2, n3, n4⟩ := hn
  have hz : (B.nd j).left = z := n3.2.2.1
  rw [nz_onS n1.1, nz_onS hon, nz_onS hr, hz, nz_onS n2.1]
  exact ⟨⟨isB_trueS n3, isB_trueS n4, new_fresh n2⟩, new_fresh n1, on_ltS hA hr, on_ltS hB n2.1, on_ltS hB n1.1⟩
theorem rsing1 {A B : Ar} {held held' : Nat → Nat} {i j : Nat} (hA : A.Inv [] held) (hB : B.Inv [] held') (hf : rform A 1 i = true) (hn : RNodes A B 1 i j) :
    (isB (B.nz j) (A.nz (A.nz i).left) (A.nz (A.nz i).left).left (B.nz j).right = true ∧ isB (B.nz (B.nz j).right) (A.nz i) (A.nz (A.nz i).left).right (A.nz i).right = true ∧ (B.σ.on (B.nz j).right && !A.σ.on (B.nz j).right) = true) ∧ (B.σ.on j && !A.σ.on j) = true ∧ (A.nz i).left < 4294967296 ∧ (B.nz j).right < 4294967296 ∧ j < 4294967296 := by
  have hon := rform_on hf
  have hr0 : (A.nd i).left ≠ 0 := by unfold rform at hf; rw [hon] at hf; simpa using hf
  have hr := (hA.child i hon).1.resolve_left hr0
  obtain ⟨z, n1, n2, n3, n4⟩ := hn
  have hz : (B.nd j).right = z := n3.2.2.2
  rw [nz_onS n1.1, nz_onS hon, nz_onS hr, hz, nz_onS n2.1]
  exact ⟨⟨isB_trueS n3, isB_trueS n4, new_fresh n2⟩, new_fresh n1, on_ltS hA hr, on_ltS hB n2.1, on_ltS hB n1.1⟩
theorem turned_keptS {A B : Ar} {held : Nat → Nat} {j n N : Nat} (h : Turned A held B j n) : KeptS N A.sl B.sl := fun x _ hx => ⟨h.kept.on _ hx, h.kept.nd _ hx, h.gen _ hx⟩
set_option maxHeartbeats 16000000 in
set_option maxRecDepth 100000 in
theorem rsingle_walk (hchk : CheckSpec) (I : AImpl) (K : RotImpl I) {a : Option Addr} {n c : Nat} {which spare : Int} {right : Bool} {w : World} (hl : Steps12 w a n) (hc : n ≤ c) (hm : c ≤ maxLen) (hw : i64R which) (hs0 : 0 ≤ spare) (hs1 : spare < 256) :
    Calls Try.prog 3 #[.slice a n c, .int .i64 which, .bool right, .int .u8 spare] w (Calm w (.bool true)) := by
  obtain ⟨i0, ji, jz0, jz1, jz2⟩ := info_parts uInfo
  have HK := Lib.hid K
  have HCHK := Lib.hid hchk
  have HL := Lib.hid hl
  have HWH := Lib.hid hw
  obtain ⟨sp, hsp⟩ : ∃ sp : Nat, spare.tmod 5 = (sp : Int) := ⟨(spare.tmod 5).toNat, by rw [Int.tmod_eq_emod_of_nonneg hs0]; omega⟩
  have hsp5 : sp ≤ 4 := by rw [Int.tmod_eq_emod_of_nonneg hs0] at hsp; omega
  have HSP := Lib.hid hsp5
  have HSPE := Lib.hid hsp
  have v0 : IntKind.i64.wrap (sp : Int) = (sp : Int) := by rw [IntKind.wrap_i64]; omega
  have HC := Lib.hid (And.intro hc hm)
  clear K hchk hl hw hs0 hs1 hsp5 hc hm
  go_enter Try.func3, Try.ntmps3
  go_wp2_with fail
  refine (build12_any I a n c sp w HL.out HC.out.1 HC.out.2 (by have := HSP.out; omega)).mono ?_
  rintro e w1 ⟨p, A, xa, xc, l, rfl, hfr, hl0, hl27, hwfa, hT⟩
  have HWFA := Lib.hid hwfa
  clear hwfa
  clear HL HC
  have hT2 := hT
  obtain ⟨F0, hF0, _⟩ := hT.has
  obtain ⟨pa, rfl⟩ := I.ptr hF0
  obtain ⟨L, hL⟩ : ∃ L, l.length = L := ⟨_, rfl⟩
  rw [hL] at hl0 hl27 hT ⊢
  have HINV : Hid (A.Inv [] (hof l)) := hT.inv
  have HAGG : Hid A.Agg := hT.agg
  have HS1 := Lib.hid (hT.scn hL)
  have HLL : Hid (l.length = L ∧ 0 < L ∧ L ≤ 27) := ⟨hL, hl0, hl27⟩
  have HFR := Lib.hid hfr
  clear hT hT2 hF0 hfr
  go_wp2_with fail
  refine (awake12_any I HK.out w1).mono ?_
  rintro e w2 ⟨rfl, hb2⟩
  have HS2 := Lib.hid (HS1.out.calm hb2)
  clear hb2 HS1
  obtain ⟨k, hk1, hk⟩ : ∃ k : Nat, k ≤ 3 ∧ k = if right then 1 else 0 := ⟨if right then 1 else 0, by cases right <;> decide, rfl⟩
  have HKR := Lib.hid hk
  have HK3 := Lib.hid hk1
  go_upto_if 41 with fail
  go_cut [12] from 42 to 177 (fun s11 wx => s11 = .int .i64 (k : Int) ∧ wx = w2)
  case first =>
    cases right
    · go_wp2_with fail
      go_meet
      exact ⟨by rw [hk]; rfl, rfl⟩
    · go_wp2_with fail
      go_meet
      exact ⟨by rw [hk]; rfl, rfl⟩
  case' rest =>
  obtain ⟨rfl, rfl⟩ := hcut
  clear hk hk1
  have hLi : (1 : Int) ≤ (L : Int) := by omega
  have hx6 := Int.emod_nonneg which (b := (L : Int)) (by omega)
  have hx7 := Int.emod_lt_of_pos which (b := (L : Int)) (by omega)
  obtain ⟨ix, hix⟩ := Int.eq_ofNat_of_zero_le hx6
  have hiL : ix < L := by omega
  have HMX : Hid (∀ wx, Calls Try.prog 9 #[.int .i64 which, .int .i64 (L : Int)] wx (fun e w' => e = .returned (.int .i64 (ix : Int)) ∧ w' = wx)) := fun wx => (mod_any which L wx HWH.out.1 HWH.out.2 hLi (by omega)).mono fun e w' ⟨h1, h2⟩ => ⟨by rw [h1, hix], h2.symm⟩
  have hrow := HS2.out.rows ⟨28, 1, .slice xa L xc, L, u32s l⟩ (by simp)
  obtain ⟨gm, rfl, hgm, hci⟩ := row_cell hrow hiL
  have hil : ix < l.length := by rw [hL]; exact hiL
  rw [held_get hil] at hci
  have hmem := getD_in hil
  obtain ⟨X, hX⟩ : ∃ X, l.getD ix 0 = X := ⟨_, rfl⟩
  rw [hX] at hci hmem
  have HXI : Hid (X < 4294967296 ∧ A.Idx X) := ⟨idx_lt4 HINV.out X hmem, held_idx HINV.out (.inr hmem)⟩
  have hii : (ix : Int) < (L : Int) := by omega
  have hi0 : (0 : Int) ≤ (ix : Int) := by omega
  clear hx6 hx7 hix hiL hrow hgm hil hmem hX hL hl0 hl27
  go_wp2_with fail
  refine (HMX.out _).mono ?_
  rintro e w3 ⟨rfl, rfl⟩
  go_wp2_with fail
  refine HS2.out.dump.mono ?_
  rintro e w4 ⟨da, dc, db, dd, rfl, hs4, hb4⟩
  clear hci hii hi0 HMX
  have hs5 := hs4.box #[.slice da A.σ.cap dc, .slice db A.σ.free.length dd] 32
  clear hs4 hb4 HS2
  go_upto_region 9 with fail
  generalize w4.alloc (Obj.cells #[.slice da A.σ.cap dc, .slice db A.σ.free.length dd] 32) = w5 at hs5 ⊢
  generalize w4.heap.size = qd at hs5 ⊢
  obtain ⟨N, hN⟩ : ∃ N, A.σ.cap = N := ⟨_, rfl⟩
  rw [hN] at hs5 ⊢
  have HN := Lib.hid hN
  have HS5 := Lib.hid hs5
  clear hs5 hN
  go_wp2_with fail
  refine (HS5.out.mut fun F hI => (call12_res I HK.out _ hI HINV.out HAGG.out HWFA.out (fun j => Nat.le_trans (hof_le l j) (by have := HLL.out; omega)) (by decide) (by decide) HXI.out.1 HK3.out).mono fun e w' h => h.mut).mono ?_
  rintro e w6 ⟨A4, rd4, ⟨hr0, hr1, hq⟩, hs6⟩
  have HS6 := Lib.hid hs6
  clear hs6 hr0 hr1 HS5
  have HRW : Hid (∀ {wx : World} {A' : Ar} {rd : Int} {rs' : List Row} {bs : List (Nat × Obj)}, Scn I w.heap.size w wx (.pointer (some pa)) A' rd (rs' ++ [⟨28, 1, .slice db A.σ.free.length dd, A.σ.free.length, u32s A.σ.free⟩, ⟨75, 11, .slice da N dc, N, slotsV A⟩, ⟨28, 1, .slice (some ⟨gm, 0, none⟩) L xc, L, u32s l⟩]) bs → SlotsAt wx da N A.sl) := fun h => h.slots_of (c := dc) HINV.out HN.out (by simp)
  rcases hq with ⟨q1, rfl, rfl⟩ | ⟨q1, q2, rfl, rfl⟩ | ⟨q1, q2, j, ht, hn, rfl⟩
  · have HQ1 := Lib.hid q1
    clear q1
    go_wp2_with fail
    refine HS6.out.dump.mono ?_
    rintro e w7 ⟨na, nc, nb, nd, rfl, hs7, hb7⟩
    have hs8 := hs7.box #[.slice na A4.σ.cap nc, .slice nb A4.σ.free.length nd] 32
    clear hs7 hb7 HS6
    go_upto_region 11 with fail
    generalize w7.alloc (Obj.cells #[.slice na A4.σ.cap nc, .slice nb A4.σ.free.length nd] 32) = w8 at hs8 ⊢
    generalize w7.heap.size = qn at hs8 ⊢
    rw [HN.out] at hs8 ⊢
    have HS8 := Lib.hid hs8
    clear hs8
    obtain ⟨d0, d1⟩ := two_cells (HS8.out.boxes (qd, Obj.cells #[.slice da N dc, .slice db A4.σ.free.length dd] 32 (0, 0)) (by simp)).2
    go_wp2_with fail
    refine (formed12_any (HS8.out.slots_of (c := dc) HINV.out HN.out (by simp)) HINV.out.ok HN.out HXI.out.1 HK3.out (fun j hj => HINV.out.child j hj)).mono ?_
    rintro e w9 ⟨rfl, hb9⟩
    rw [HQ1.out]
    have HS9 := Lib.hid (HS8.out.calm hb9)
    clear hb9 HS8 d0 d1
    obtain ⟨d0, d1⟩ := two_cells (HS9.out.boxes (qd, Obj.cells #[.slice da N dc, .slice db A4.σ.free.length dd] 32 (0, 0)) (by simp)).2
    obtain ⟨n0, n1⟩ := two_cells (HS9.out.boxes (qn, Obj.cells #[.slice na N nc, .slice nb A4.σ.free.length nd] 32 (0, 0)) (by simp)).2
    skip
    have hsp := HSPE.out
    go_wp2_with fail
    refine (same_dump A4.σ.free rfl (HS9.out.slots_of (c := dc) HINV.out HN.out (by simp)) (HS9.out.slots_of (c := nc) HINV.out HN.out (by simp)) (HS9.out.rows ⟨28, 1, .slice db A4.σ.free.length dd, A4.σ.free.length, u32s A4.σ.free⟩ (by simp)) (HS9.out.rows ⟨28, 1, .slice nb A4.σ.free.length nd, A4.σ.free.length, u32s A4.σ.free⟩ (by simp)) (by have := HINV.out.ok.cap2; have := HN.out; omega) (by have := HFR.out; have := HSP.out; omega)).mono ?_
    rintro e w10 ⟨rfl, hb10⟩
    have HB := Lib.hid (HS9.out.calm hb10).below
    clear hb10 HS9 d0 d1 n0 n1
    go_wp2_with fail
    go_ret
    exact ⟨rfl, HB.out⟩
  · have HLT : Hid (sp < 2) := by
      have h2 : rneed k = 2 := by have h3 := HKR.out; unfold rneed; rw [if_pos]; cases right <;> simp at h3 <;> omega
      rw [h2, HFR.out] at q2
      exact q2
    have HQ1 := Lib.hid q1
    clear q1 q2
    go_wp2_with fail
    refine HS6.out.dump.mono ?_
    rintro e w7 ⟨na, nc, nb, nd, rfl, hs7, hb7⟩
    have hs8 := hs7.box #[.slice na A4.σ.cap nc, .slice nb A4.σ.free.length nd] 32
    clear hs7 hb7 HS6
    go_upto_region 11 with fail
    generalize w7.alloc (Obj.cells #[.slice na A4.σ.cap nc, .slice nb A4.σ.free.length nd] 32) = w8 at hs8 ⊢
    generalize w7.heap.size = qn at hs8 ⊢
    rw [HN.out] at hs8 ⊢
    have HS8 := Lib.hid hs8
    clear hs8
    obtain ⟨d0, d1⟩ := two_cells (HS8.out.boxes (qd, Obj.cells #[.slice da N dc, .slice db A4.σ.free.length dd] 32 (0, 0)) (by simp)).2
    go_wp2_with fail
    refine (formed12_any (HS8.out.slots_of (c := dc) HINV.out HN.out (by simp)) HINV.out.ok HN.out HXI.out.1 HK3.out (fun j hj => HINV.out.child j hj)).mono ?_
    rintro e w9 ⟨rfl, hb9⟩
    rw [HQ1.out]
    have HS9 := Lib.hid (HS8.out.calm hb9)
    clear hb9 HS8 d0 d1
    obtain ⟨d0, d1⟩ := two_cells (HS9.out.boxes (qd, Obj.cells #[.slice da N dc, .slice db A4.σ.free.length dd] 32 (0, 0)) (by simp)).2
    obtain ⟨n0, n1⟩ := two_cells (HS9.out.boxes (qn, Obj.cells #[.slice na N nc, .slice nb A4.σ.free.length nd] 32 (0, 0)) (by simp)).2
    have hlt : decide ((sp : Int) < 2) = true := decide_eq_true (by have := HLT.out; omega)
    have hsp := HSPE.out
    go_wp2_with fail
    refine (same_dump A4.σ.free rfl (HS9.out.slots_of (c := dc) HINV.out HN.out (by simp)) (HS9.out.slots_of (c := nc) HINV.out HN.out (by simp)) (HS9.out.rows ⟨28, 1, .slice db A4.σ.free.length dd, A4.σ.free.length, u32s A4.σ.free⟩ (by simp)) (HS9.out.rows ⟨28, 1, .slice nb A4.σ.free.length nd, A4.σ.free.length, u32s A4.σ.free⟩ (by simp)) (by have := HINV.out.ok.cap2; have := HN.out; omega) (by have := HFR.out; have := HSP.out; omega)).mono ?_
    rintro e w10 ⟨rfl, hb10⟩
    have HB := Lib.hid (HS9.out.calm hb10).below
    clear hb10 HS9 d0 d1 n0 n1
    go_wp2_with fail
    go_ret
    exact ⟨rfl, HB.out⟩
  · have h2 : rneed k = 2 := by have h3 := HKR.out; unfold rneed; cases right <;> simp at h3 <;> rw [h3] <;> rfl
    rw [h2] at q2 ht
    have HTU := Lib.hid ht
    have HRN := Lib.hid hn
    have HQ1 := Lib.hid q1
    have HSP2 : Hid (2 ≤ sp) := by rw [HFR.out] at q2; exact q2
    have HN4 : Hid (A4.σ.cap = N) := ht.kept.cap.trans HN.out
    clear q1 q2 ht hn h2
    obtain ⟨M, hM⟩ : ∃ M, A.σ.free.length = M := ⟨_, rfl⟩
    rw [hM] at HS6
    clear hM
    go_wp2_with fail
    refine HS6.out.dump.mono ?_
    rintro e w7 ⟨na, nc, nb, nd, rfl, hs7, hb7⟩
    have hs8 := hs7.box #[.slice na A4.σ.cap nc, .slice nb A4.σ.free.length nd] 32
    clear hs7 hb7 HS6
    go_upto_region 11 with fail
    generalize w7.alloc (Obj.cells #[.slice na A4.σ.cap nc, .slice nb A4.σ.free.length nd] 32) = w8 at hs8 ⊢
    generalize w7.heap.size = qn at hs8 ⊢
    obtain ⟨M4, hM4⟩ : ∃ M, A4.σ.free.length = M := ⟨_, rfl⟩
    rw [HN4.out, hM4] at hs8 ⊢
    have HM4 : Hid (M4 + 2 = sp) := by have h1 := HTU.out.free; rw [hM4, HFR.out] at h1; exact h1
    have HM5 := Lib.hid hM4
    clear hM4
    generalize hrs : (⟨28, 1, .slice nb M4 nd, M4, u32s A4.σ.free⟩ : Row) :: _ = rs at hs8
    have HRD : Hid (∀ {wx : World} {rd : Int} {bs : List (Nat × Obj)}, Scn I w.heap.size w wx (.pointer (some pa)) A4 rd rs bs → SlotsAt wx da N A.sl) := fun h => h.slots_of (c := dc) HINV.out HN.out (by rw [← hrs]; simp)
    have HRN4 : Hid (∀ {wx : World} {rd : Int} {bs : List (Nat × Obj)}, Scn I w.heap.size w wx (.pointer (some pa)) A4 rd rs bs → SlotsAt wx na N A4.sl) := fun h => h.slots_of (c := nc) HTU.out.inv HN4.out (by rw [← hrs]; simp)
    have HMR : Hid (∀ {wx : World} {rd : Int} {bs : List (Nat × Obj)}, Scn I w.heap.size w wx (.pointer (some pa)) A4 rd rs bs → Scn I w.heap.size w wx (.pointer (some pa)) A4 rd [⟨28, 1, .slice (some ⟨gm, 0, none⟩) L xc, L, u32s l⟩] []) := fun h => h.less (by rw [← hrs]; simp) (List.nil_sublist _)
    have HS8 := Lib.hid hs8
    clear hs8 hrs HRW
    obtain ⟨d0, d1⟩ := two_cells (HS8.out.boxes (qd, Obj.cells #[.slice da N dc, .slice db M dd] 32 (0, 0)) (by simp)).2
    go_wp2_with fail
    refine (formed12_any (HRD.out HS8.out) HINV.out.ok HN.out HXI.out.1 HK3.out (fun j hj => HINV.out.child j hj)).mono ?_
    rintro e w9 ⟨rfl, hb9⟩
    rw [HQ1.out]
    have HS9 := Lib.hid (HS8.out.calm hb9)
    clear hb9 HS8 d0 d1
    have hlt : decide ((sp : Int) < 2) = false := decide_eq_false (by have := HSP2.out; omega)
    have hsp := HSPE.out
    cases right
    · have hk0 : k = 0 := HKR.out
      subst hk0
      have hr := rsing0 HINV.out HTU.out.inv HQ1.out HRN.out
      obtain ⟨⟨r1, r2, r3⟩, r4, r5, r6, r7⟩ := hr
      have HR1 := Lib.hid r1
      have HR2 := Lib.hid r2
      have HR3 := Lib.hid r3
      have HR4 := Lib.hid r4
      have HR5 := Lib.hid r5
      have HR6 := Lib.hid r6
      have HR7 := Lib.hid r7
      clear r1 r2 r3 r4 r5 r6 r7
      obtain ⟨d0, d1⟩ := two_cells (HS9.out.boxes (qd, Obj.cells #[.slice da N dc, .slice db M dd] 32 (0, 0)) (by simp)).2
      go_wp2_with fail
      refine (at12_any (a := da) (b := db) (N := N) (c := dc) (m := M) (d := dd) (i := X) (HRD.out HS9.out) HINV.out.ok HN.out HXI.out.1).mono ?_
      rintro e w10 ⟨rfl, hb10⟩
      obtain ⟨XN, hXN⟩ : ∃ x, A.nz X = x := ⟨_, rfl⟩
      rw [hXN]
      have HXN := Lib.hid hXN
      unfold ndRow
      have hs10 := (HS9.out.calm hb10).box #[Value.int .i64 XN.key, .int .i64 XN.val, .int .u32 (XN.left : Int), .int .u32 (XN.right : Int), .int .i64 XN.size, .int .i64 XN.sum, .int .i64 XN.mn, .int .i64 XN.mx] 40
      clear hb10 HS9 hXN d0 d1
      go_upto_region 21 with fail
      generalize w10.alloc (Obj.cells #[Value.int .i64 XN.key, .int .i64 XN.val, .int .u32 (XN.left : Int), .int .u32 (XN.right : Int), .int .i64 XN.size, .int .i64 XN.sum, .int .i64 XN.mn, .int .i64 XN.mx] 40) = w11 at hs10 ⊢
      generalize w10.heap.size = gx at hs10 ⊢
      have HS11 := Lib.hid hs10
      clear hs10
      rw [HXN.out] at HR1 HR2 HR5
      obtain ⟨n0, n1⟩ := two_cells (HS11.out.boxes (qn, Obj.cells #[.slice na N nc, .slice nb M4 nd] 32 (0, 0)) (by simp)).2
      go_wp2_with fail
      refine (at12_any (a := na) (b := nb) (N := N) (c := nc) (m := M4) (d := nd) (i := j) (HRN4.out HS11.out) HTU.out.inv.ok HN4.out HR7.out).mono ?_
      rintro e w12 ⟨rfl, hb12⟩
      obtain ⟨YN, hYN⟩ : ∃ x, A4.nz j = x := ⟨_, rfl⟩
      rw [hYN]
      have HYN := Lib.hid hYN
      unfold ndRow
      have hs12 := (HS11.out.calm hb12).box #[Value.int .i64 YN.key, .int .i64 YN.val, .int .u32 (YN.left : Int), .int .u32 (YN.right : Int), .int .i64 YN.size, .int .i64 YN.sum, .int .i64 YN.mn, .int .i64 YN.mx] 40
      clear hb12 HS11 hYN n0 n1
      go_upto_region 22 with fail
      generalize w12.alloc (Obj.cells #[Value.int .i64 YN.key, .int .i64 YN.val, .int .u32 (YN.left : Int), .int .u32 (YN.right : Int), .int .i64 YN.size, .int .i64 YN.sum, .int .i64 YN.mn, .int .i64 YN.mx] 40) = w13 at hs12 ⊢
      generalize w12.heap.size = gy at hs12 ⊢
      have HS13 := Lib.hid hs12
      clear hs12
      rw [HYN.out] at HR1 HR2 HR3 HR6
      go_upto_region 27 with fail
      obtain ⟨d0, d1⟩ := two_cells (HS13.out.boxes (qd, Obj.cells #[.slice da N dc, .slice db M dd] 32 (0, 0)) (by simp)).2
      obtain ⟨⟨x0, x1, x2, x3, x4, x5, x6, x7⟩, -⟩ := row8_of (X := XN) (HS13.out.boxes (gx, Obj.cells #[Value.int .i64 XN.key, .int .i64 XN.val, .int .u32 (XN.left : Int), .int .u32 (XN.right : Int), .int .i64 XN.size, .int .i64 XN.sum, .int .i64 XN.mn, .int .i64 XN.mx] 40 (0, 0)) (by simp)).2
      go_wp2_with fail
      refine (at12_any (a := da) (b := db) (N := N) (c := dc) (m := M) (d := dd) (i := XN.right) (HRD.out HS13.out) HINV.out.ok HN.out HR5.out).mono ?_
      rintro e w14 ⟨rfl, hb14⟩
      obtain ⟨PN, hPN⟩ : ∃ x, A.nz XN.right = x := ⟨_, rfl⟩
      rw [hPN]
      have HPN := Lib.hid hPN
      unfold ndRow
      have hs14 := (HS13.out.calm hb14).box #[Value.int .i64 PN.key, .int .i64 PN.val, .int .u32 (PN.left : Int), .int .u32 (PN.right : Int), .int .i64 PN.size, .int .i64 PN.sum, .int .i64 PN.mn, .int .i64 PN.mx] 40
      clear hb14 HS13 hPN d0 d1 x0 x1 x2 x3 x4 x5 x6 x7
      go_upto_region 28 with fail
      generalize w14.alloc (Obj.cells #[Value.int .i64 PN.key, .int .i64 PN.val, .int .u32 (PN.left : Int), .int .u32 (PN.right : Int), .int .i64 PN.size, .int .i64 PN.sum, .int .i64 PN.mn, .int .i64 PN.mx] 40) = w15 at hs14 ⊢
      generalize w14.heap.size = gp at hs14 ⊢
      have HS15 := Lib.hid hs14
      clear hs14
      rw [HPN.out] at HR1 HR2
      obtain ⟨n0, n1⟩ := two_cells (HS15.out.boxes (qn, Obj.cells #[.slice na N nc, .slice nb M4 nd] 32 (0, 0)) (by simp)).2
      obtain ⟨⟨y0, y1, y2, y3, y4, y5, y6, y7⟩, -⟩ := row8_of (X := YN) (HS15.out.boxes (gy, Obj.cells #[Value.int .i64 YN.key, .int .i64 YN.val, .int .u32 (YN.left : Int), .int .u32 (YN.right : Int), .int .i64 YN.size, .int .i64 YN.sum, .int .i64 YN.mn, .int .i64 YN.mx] 40 (0, 0)) (by simp)).2
      go_wp2_with fail
      refine (at12_any (a := na) (b := nb) (N := N) (c := nc) (m := M4) (d := nd) (i := YN.left) (HRN4.out HS15.out) HTU.out.inv.ok HN4.out HR6.out).mono ?_
      rintro e w16 ⟨rfl, hb16⟩
      obtain ⟨ZN, hZN⟩ : ∃ x, A4.nz YN.left = x := ⟨_, rfl⟩
      rw [hZN]
      have HZN := Lib.hid hZN
      unfold ndRow
      have hs16 := (HS15.out.calm hb16).box #[Value.int .i64 ZN.key, .int .i64 ZN.val, .int .u32 (ZN.left : Int), .int .u32 (ZN.right : Int), .int .i64 ZN.size, .int .i64 ZN.sum, .int .i64 ZN.mn, .int .i64 ZN.mx] 40
      clear hb16 HS15 hZN n0 n1 y0 y1 y2 y3 y4 y5 y6 y7
      go_upto_region 29 with fail
      generalize w16.alloc (Obj.cells #[Value.int .i64 ZN.key, .int .i64 ZN.val, .int .u32 (ZN.left : Int), .int .u32 (ZN.right : Int), .int .i64 ZN.size, .int .i64 ZN.sum, .int .i64 ZN.mn, .int .i64 ZN.mx] 40) = w17 at hs16 ⊢
      generalize w16.heap.size = gz at hs16 ⊢
      have HS17 := Lib.hid hs16
      clear hs16
      rw [HZN.out] at HR2
      obtain ⟨⟨x0, x1, x2, x3, x4, x5, x6, x7⟩, -⟩ := row8_of (X := XN) (HS17.out.boxes (gx, Obj.cells #[Value.int .i64 XN.key, .int .i64 XN.val, .int .u32 (XN.left : Int), .int .u32 (XN.right : Int), .int .i64 XN.size, .int .i64 XN.sum, .int .i64 XN.mn, .int .i64 XN.mx] 40 (0, 0)) (by simp)).2
      obtain ⟨⟨y0, y1, y2, y3, y4, y5, y6, y7⟩, -⟩ := row8_of (X := YN) (HS17.out.boxes (gy, Obj.cells #[Value.int .i64 YN.key, .int .i64 YN.val, .int .u32 (YN.left : Int), .int .u32 (YN.right : Int), .int .i64 YN.size, .int .i64 YN.sum, .int .i64 YN.mn, .int .i64 YN.mx] 40 (0, 0)) (by simp)).2
      obtain ⟨⟨p0, p1, p2, p3, p4, p5, p6, p7⟩, -⟩ := row8_of (X := PN) (HS17.out.boxes (gp, Obj.cells #[Value.int .i64 PN.key, .int .i64 PN.val, .int .u32 (PN.left : Int), .int .u32 (PN.right : Int), .int .i64 PN.size, .int .i64 PN.sum, .int .i64 PN.mn, .int .i64 PN.mx] 40 (0, 0)) (by simp)).2
      obtain ⟨⟨z0, z1, z2, z3, z4, z5, z6, z7⟩, -⟩ := row8_of (X := ZN) (HS17.out.boxes (gz, Obj.cells #[Value.int .i64 ZN.key, .int .i64 ZN.val, .int .u32 (ZN.left : Int), .int .u32 (ZN.right : Int), .int .i64 ZN.size, .int .i64 ZN.sum, .int .i64 ZN.mn, .int .i64 ZN.mx] 40 (0, 0)) (by simp)).2
      obtain ⟨d0, d1⟩ := two_cells (HS17.out.boxes (qd, Obj.cells #[.slice da N dc, .slice db M dd] 32 (0, 0)) (by simp)).2
      obtain ⟨n0, n1⟩ := two_cells (HS17.out.boxes (qn, Obj.cells #[.slice na N nc, .slice nb M4 nd] 32 (0, 0)) (by simp)).2
      go_wp2_with fail
      refine (is12_any YN PN YN.left PN.right _).mono ?_
      rintro e w18 ⟨rfl, hb18⟩
      rw [HR1.out]
      have HS18 := Lib.hid (HS17.out.calm hb18)
      clear hb18 HS17 x0 x1 x2 x3 x4 x5 x6 x7 y0 y1 y2 y3 y4 y5 y6 y7 p0 p1 p2 p3 p4 p5 p6 p7 z0 z1 z2 z3 z4 z5 z6 z7 d0 d1 n0 n1
      obtain ⟨⟨x0, x1, x2, x3, x4, x5, x6, x7⟩, -⟩ := row8_of (X := XN) (HS18.out.boxes (gx, Obj.cells #[Value.int .i64 XN.key, .int .i64 XN.val, .int .u32 (XN.left : Int), .int .u32 (XN.right : Int), .int .i64 XN.size, .int .i64 XN.sum, .int .i64 XN.mn, .int .i64 XN.mx] 40 (0, 0)) (by simp)).2
      obtain ⟨⟨y0, y1, y2, y3, y4, y5, y6, y7⟩, -⟩ := row8_of (X := YN) (HS18.out.boxes (gy, Obj.cells #[Value.int .i64 YN.key, .int .i64 YN.val, .int .u32 (YN.left : Int), .int .u32 (YN.right : Int), .int .i64 YN.size, .int .i64 YN.sum, .int .i64 YN.mn, .int .i64 YN.mx] 40 (0, 0)) (by simp)).2
      obtain ⟨⟨p0, p1, p2, p3, p4, p5, p6, p7⟩, -⟩ := row8_of (X := PN) (HS18.out.boxes (gp, Obj.cells #[Value.int .i64 PN.key, .int .i64 PN.val, .int .u32 (PN.left : Int), .int .u32 (PN.right : Int), .int .i64 PN.size, .int .i64 PN.sum, .int .i64 PN.mn, .int .i64 PN.mx] 40 (0, 0)) (by simp)).2
      obtain ⟨⟨z0, z1, z2, z3, z4, z5, z6, z7⟩, -⟩ := row8_of (X := ZN) (HS18.out.boxes (gz, Obj.cells #[Value.int .i64 ZN.key, .int .i64 ZN.val, .int .u32 (ZN.left : Int), .int .u32 (ZN.right : Int), .int .i64 ZN.size, .int .i64 ZN.sum, .int .i64 ZN.mn, .int .i64 ZN.mx] 40 (0, 0)) (by simp)).2
      obtain ⟨d0, d1⟩ := two_cells (HS18.out.boxes (qd, Obj.cells #[.slice da N dc, .slice db M dd] 32 (0, 0)) (by simp)).2
      obtain ⟨n0, n1⟩ := two_cells (HS18.out.boxes (qn, Obj.cells #[.slice na N nc, .slice nb M4 nd] 32 (0, 0)) (by simp)).2
      go_wp2_with fail
      refine (is12_any ZN XN XN.left PN.left _).mono ?_
      rintro e w19 ⟨rfl, hb19⟩
      rw [HR2.out]
      have HS19 := Lib.hid (HS18.out.calm hb19)
      clear hb19 HS18 x0 x1 x2 x3 x4 x5 x6 x7 y0 y1 y2 y3 y4 y5 y6 y7 p0 p1 p2 p3 p4 p5 p6 p7 z0 z1 z2 z3 z4 z5 z6 z7 d0 d1 n0 n1
      obtain ⟨⟨x0, x1, x2, x3, x4, x5, x6, x7⟩, -⟩ := row8_of (X := XN) (HS19.out.boxes (gx, Obj.cells #[Value.int .i64 XN.key, .int .i64 XN.val, .int .u32 (XN.left : Int), .int .u32 (XN.right : Int), .int .i64 XN.size, .int .i64 XN.sum, .int .i64 XN.mn, .int .i64 XN.mx] 40 (0, 0)) (by simp)).2
      obtain ⟨⟨y0, y1, y2, y3, y4, y5, y6, y7⟩, -⟩ := row8_of (X := YN) (HS19.out.boxes (gy, Obj.cells #[Value.int .i64 YN.key, .int .i64 YN.val, .int .u32 (YN.left : Int), .int .u32 (YN.right : Int), .int .i64 YN.size, .int .i64 YN.sum, .int .i64 YN.mn, .int .i64 YN.mx] 40 (0, 0)) (by simp)).2
      obtain ⟨⟨p0, p1, p2, p3, p4, p5, p6, p7⟩, -⟩ := row8_of (X := PN) (HS19.out.boxes (gp, Obj.cells #[Value.int .i64 PN.key, .int .i64 PN.val, .int .u32 (PN.left : Int), .int .u32 (PN.right : Int), .int .i64 PN.size, .int .i64 PN.sum, .int .i64 PN.mn, .int .i64 PN.mx] 40 (0, 0)) (by simp)).2
      obtain ⟨⟨z0, z1, z2, z3, z4, z5, z6, z7⟩, -⟩ := row8_of (X := ZN) (HS19.out.boxes (gz, Obj.cells #[Value.int .i64 ZN.key, .int .i64 ZN.val, .int .u32 (ZN.left : Int), .int .u32 (ZN.right : Int), .int .i64 ZN.size, .int .i64 ZN.sum, .int .i64 ZN.mn, .int .i64 ZN.mx] 40 (0, 0)) (by simp)).2
      obtain ⟨d0, d1⟩ := two_cells (HS19.out.boxes (qd, Obj.cells #[.slice da N dc, .slice db M dd] 32 (0, 0)) (by simp)).2
      obtain ⟨n0, n1⟩ := two_cells (HS19.out.boxes (qn, Obj.cells #[.slice na N nc, .slice nb M4 nd] 32 (0, 0)) (by simp)).2
      go_wp2_with fail
      refine (fresh12_any (a := da) (b := db) (N := N) (c := dc) (m := M) (d := dd) (a' := na) (b' := nb) (c' := nc) (m' := M4) (d' := nd) (i := YN.left) (HRD.out HS19.out) HINV.out.ok HN.out (HRN4.out HS19.out) HTU.out.inv.ok HN4.out HR6.out).mono ?_
      rintro e w20 ⟨rfl, hb20⟩
      rw [HR3.out]
      have HS20 := Lib.hid (HS19.out.calm hb20)
      clear hb20 HS19 x0 x1 x2 x3 x4 x5 x6 x7 y0 y1 y2 y3 y4 y5 y6 y7 p0 p1 p2 p3 p4 p5 p6 p7 z0 z1 z2 z3 z4 z5 z6 z7 d0 d1 n0 n1
      obtain ⟨d0, d1⟩ := two_cells (HS20.out.boxes (qd, Obj.cells #[.slice da N dc, .slice db M dd] 32 (0, 0)) (by simp)).2
      obtain ⟨n0, n1⟩ := two_cells (HS20.out.boxes (qn, Obj.cells #[.slice na N nc, .slice nb M4 nd] 32 (0, 0)) (by simp)).2
      go_wp2_with fail
      refine (fresh12_any (a := da) (b := db) (N := N) (c := dc) (m := M) (d := dd) (a' := na) (b' := nb) (c' := nc) (m' := M4) (d' := nd) (i := j) (HRD.out HS20.out) HINV.out.ok HN.out (HRN4.out HS20.out) HTU.out.inv.ok HN4.out HR7.out).mono ?_
      rintro e w21 ⟨rfl, hb21⟩
      rw [HR4.out]
      have HS21 := Lib.hid (HS20.out.calm hb21)
      clear hb21 HS20 d0 d1 n0 n1
      obtain ⟨d0, d1⟩ := two_cells (HS21.out.boxes (qd, Obj.cells #[.slice da N dc, .slice db M dd] 32 (0, 0)) (by simp)).2
      obtain ⟨n0, n1⟩ := two_cells (HS21.out.boxes (qn, Obj.cells #[.slice na N nc, .slice nb M4 nd] 32 (0, 0)) (by simp)).2
      go_wp2_with fail
      refine HS21.out.free.mono ?_
      rintro e w22 ⟨rfl, hs22⟩
      rw [HM5.out]
      have HS22 := Lib.hid hs22
      clear hs22 HS21 d0 d1 n0 n1
      have wf : IntKind.i64.wrap ((sp : Int) - 2) = (M4 : Int) := by rw [IntKind.wrap_i64]; have h1 := HM4.out; have h2 := HSP.out; omega
      obtain ⟨d0, d1⟩ := two_cells (HS22.out.boxes (qd, Obj.cells #[.slice da N dc, .slice db M dd] 32 (0, 0)) (by simp)).2
      obtain ⟨n0, n1⟩ := two_cells (HS22.out.boxes (qn, Obj.cells #[.slice na N nc, .slice nb M4 nd] 32 (0, 0)) (by simp)).2
      go_wp2_with fail
      refine (kept_any (a := da) (b := db) (n := N) (c := dc) (m := M) (d := dd) (a' := na) (b' := nb) (c' := nc) (m' := M4) (d' := nd) (HRD.out HS22.out) (HRN4.out HS22.out) (turned_keptS HTU.out) (by have h1 := HINV.out.ok.cap2; have h2 := HN.out; omega)).mono ?_
      rintro e w23 ⟨rfl, hb23⟩
      have hmr := (HMR.out (HS22.out.calm hb23)).calm (below_new7 w23 (Obj.cells #[Value.int .u32 (j : Int)] 28))
      have hrow := hmr.rows ⟨28, 1, .slice (some ⟨gm, 0, none⟩) L xc, L, u32s l⟩ (by simp)
      have hB := hmr.mr.hB
      have hnew := cell_new1 w23 (Value.int .u32 (j : Int)) 28
      have HMS := Lib.hid hmr
      have hLi41 : (L : Int) ≤ 41 := by have := HLL.out; omega
      clear hb23 HS22 hmr d0 d1 n0 n1
      go_wp2_with (at_builtin; refine wpList_append_g (by rfl) (.tmp 172) (.tmp 174) 24 rfl w.heap.size 28 i0 (.int .u32 0) 1 4 Try.underlying24 ji jz0 jz1 jz2 rfl (by decide) _ L (u32s l) rfl hrow ⟨w23.heap.size, 0, none⟩ 1 1 [.int .u32 (j : Int)] rfl rfl hnew (one_cell1 _ _) (by unfold maxLen; omega) (by omega) hB ?_; intro v6 wf6 ho6 hg6 hv6)
      obtain ⟨va, vc, rfl⟩ := row_val ho6
      have hsf := HMS.out.grew ho6 hg6 hv6
      have hlen : (l ++ [j]).length = L + 1 := by rw [List.length_append, HLL.out.1]; rfl
      have hj0 : j ≠ 0 := by intro h; subst h; have h1 := HR4.out; have h2 : A4.σ.on 0 = true := by simp only [Bool.and_eq_true] at h1; exact h1.1
                             have := HTU.out.inv.ok.on 0 h2; omega
      have hon : A4.σ.on j = true := by have h1 := HR4.out; simp only [Bool.and_eq_true] at h1; exact h1.1
      have hut : U32At wf6 va (l ++ [j]) := row_u32 (c := vc) (by rw [hlen, u32s_app]; exact ho6) (fun y hy => by
        rcases List.mem_append.1 hy with hy | hy
        · exact idx_lt4 HINV.out y hy
        · simp at hy; subst hy; exact HR7.out)
      have hiv : A4.Inv [] (hof (l ++ [j])) := by rw [hof_more l hj0]; exact HTU.out.inv
      refine (hsf.sound HCHK.out hiv HTU.out.agg hut (L := L + 1) hlen (by have := HLL.out; omega) (fun x hx => ?_)).mono ?_
      · rcases List.mem_append.1 hx with hx | hx
        · exact (held_idx HINV.out (.inr hx)).imp_right (HTU.out.kept.on x)
        · simp at hx; subst hx; exact .inr hon
      rintro e wz ⟨rfl, hbz⟩
      have HB := Lib.hid (hsf.calm hbz).below
      clear hbz hsf ho6 hg6 hv6 hut hiv hrow hB hnew
      go_wp2_with fail
      go_ret
      exact ⟨rfl, HB.out⟩
    · have hk0 : k = 1 := HKR.out
      subst hk0
      have hr := rsing1 HINV.out HTU.out.inv HQ1.out HRN.out
      obtain ⟨⟨r1, r2, r3⟩, r4, r5, r6, r7⟩ := hr
      have HR1 := Lib.hid r1
      have HR2 := Lib.hid r2
      have HR3 := Lib.hid r3
      have HR4 := Lib.hid r4
      have HR5 := Lib.hid r5
      have HR6 := Lib.hid r6
      have HR7 := Lib.hid r7
      clear r1 r2 r3 r4 r5 r6 r7
      obtain ⟨d0, d1⟩ := two_cells (HS9.out.boxes (qd, Obj.cells #[.slice da N dc, .slice db M dd] 32 (0, 0)) (by simp)).2
      go_wp2_with fail
      refine (at12_any (a := da) (b := db) (N := N) (c := dc) (m := M) (d := dd) (i := X) (HRD.out HS9.out) HINV.out.ok HN.out HXI.out.1).mono ?_
      rintro e w10 ⟨rfl, hb10⟩
      obtain ⟨XN, hXN⟩ : ∃ x, A.nz X = x := ⟨_, rfl⟩
      rw [hXN]
      have HXN := Lib.hid hXN
      unfold ndRow
      have hs10 := (HS9.out.calm hb10).box #[Value.int .i64 XN.key, .int .i64 XN.val, .int .u32 (XN.left : Int), .int .u32 (XN.right : Int), .int .i64 XN.size, .int .i64 XN.sum, .int .i64 XN.mn, .int .i64 XN.mx] 40
      clear hb10 HS9 hXN d0 d1
      go_upto_region 21 with fail
      generalize w10.alloc (Obj.cells #[Value.int .i64 XN.key, .int .i64 XN.val, .int .u32 (XN.left : Int), .int .u32 (XN.right : Int), .int .i64 XN.size, .int .i64 XN.sum, .int .i64 XN.mn, .int .i64 XN.mx] 40) = w11 at hs10 ⊢
      generalize w10.heap.size = gx at hs10 ⊢
      have HS11 := Lib.hid hs10
      clear hs10
      rw [HXN.out] at HR1 HR2 HR5
      obtain ⟨n0, n1⟩ := two_cells (HS11.out.boxes (qn, Obj.cells #[.slice na N nc, .slice nb M4 nd] 32 (0, 0)) (by simp)).2
      go_wp2_with fail
      refine (at12_any (a := na) (b := nb) (N := N) (c := nc) (m := M4) (d := nd) (i := j) (HRN4.out HS11.out) HTU.out.inv.ok HN4.out HR7.out).mono ?_
      rintro e w12 ⟨rfl, hb12⟩
      obtain ⟨YN, hYN⟩ : ∃ x, A4.nz j = x := ⟨_, rfl⟩
      rw [hYN]
      have HYN := Lib.hid hYN
      unfold ndRow
      have hs12 := (HS11.out.calm hb12).box #[Value.int .i64 YN.key, .int .i64 YN.val, .int .u32 (YN.left : Int), .int .u32 (YN.right : Int), .int .i64 YN.size, .int .i64 YN.sum, .int .i64 YN.mn, .int .i64 YN.mx] 40
      clear hb12 HS11 hYN n0 n1
      go_upto_region 22 with fail
      generalize w12.alloc (Obj.cells #[Value.int .i64 YN.key, .int .i64 YN.val, .int .u32 (YN.left : Int), .int .u32 (YN.right : Int), .int .i64 YN.size, .int .i64 YN.sum, .int .i64 YN.mn, .int .i64 YN.mx] 40) = w13 at hs12 ⊢
      generalize w12.heap.size = gy at hs12 ⊢
      have HS13 := Lib.hid hs12
      clear hs12
      rw [HYN.out] at HR1 HR2 HR3 HR6
      go_upto_region 24 with fail
      obtain ⟨d0, d1⟩ := two_cells (HS13.out.boxes (qd, Obj.cells #[.slice da N dc, .slice db M dd] 32 (0, 0)) (by simp)).2
      obtain ⟨⟨x0, x1, x2, x3, x4, x5, x6, x7⟩, -⟩ := row8_of (X := XN) (HS13.out.boxes (gx, Obj.cells #[Value.int .i64 XN.key, .int .i64 XN.val, .int .u32 (XN.left : Int), .int .u32 (XN.right : Int), .int .i64 XN.size, .int .i64 XN.sum, .int .i64 XN.mn, .int .i64 XN.mx] 40 (0, 0)) (by simp)).2
      go_wp2_with fail
      refine (at12_any (a := da) (b := db) (N := N) (c := dc) (m := M) (d := dd) (i := XN.left) (HRD.out HS13.out) HINV.out.ok HN.out HR5.out).mono ?_
      rintro e w14 ⟨rfl, hb14⟩
      obtain ⟨PN, hPN⟩ : ∃ x, A.nz XN.left = x := ⟨_, rfl⟩
      rw [hPN]
      have HPN := Lib.hid hPN
      unfold ndRow
      have hs14 := (HS13.out.calm hb14).box #[Value.int .i64 PN.key, .int .i64 PN.val, .int .u32 (PN.left : Int), .int .u32 (PN.right : Int), .int .i64 PN.size, .int .i64 PN.sum, .int .i64 PN.mn, .int .i64 PN.mx] 40
      clear hb14 HS13 hPN d0 d1 x0 x1 x2 x3 x4 x5 x6 x7
      go_upto_region 25 with fail
      generalize w14.alloc (Obj.cells #[Value.int .i64 PN.key, .int .i64 PN.val, .int .u32 (PN.left : Int), .int .u32 (PN.right : Int), .int .i64 PN.size, .int .i64 PN.sum, .int .i64 PN.mn, .int .i64 PN.mx] 40) = w15 at hs14 ⊢
      generalize w14.heap.size = gp at hs14 ⊢
      have HS15 := Lib.hid hs14
      clear hs14
      rw [HPN.out] at HR1 HR2
      obtain ⟨n0, n1⟩ := two_cells (HS15.out.boxes (qn, Obj.cells #[.slice na N nc, .slice nb M4 nd] 32 (0, 0)) (by simp)).2
      obtain ⟨⟨y0, y1, y2, y3, y4, y5, y6, y7⟩, -⟩ := row8_of (X := YN) (HS15.out.boxes (gy, Obj.cells #[Value.int .i64 YN.key, .int .i64 YN.val, .int .u32 (YN.left : Int), .int .u32 (YN.right : Int), .int .i64 YN.size, .int .i64 YN.sum, .int .i64 YN.mn, .int .i64 YN.mx] 40 (0, 0)) (by simp)).2
      go_wp2_with fail
      refine (at12_any (a := na) (b := nb) (N := N) (c := nc) (m := M4) (d := nd) (i := YN.right) (HRN4.out HS15.out) HTU.out.inv.ok HN4.out HR6.out).mono ?_
      rintro e w16 ⟨rfl, hb16⟩
      obtain ⟨ZN, hZN⟩ : ∃ x, A4.nz YN.right = x := ⟨_, rfl⟩
      rw [hZN]
      have HZN := Lib.hid hZN
      unfold ndRow
      have hs16 := (HS15.out.calm hb16).box #[Value.int .i64 ZN.key, .int .i64 ZN.val, .int .u32 (ZN.left : Int), .int .u32 (ZN.right : Int), .int .i64 ZN.size, .int .i64 ZN.sum, .int .i64 ZN.mn, .int .i64 ZN.mx] 40
      clear hb16 HS15 hZN n0 n1 y0 y1 y2 y3 y4 y5 y6 y7
      go_upto_region 26 with fail
      generalize w16.alloc (Obj.cells #[Value.int .i64 ZN.key, .int .i64 ZN.val, .int .u32 (ZN.left : Int), .int .u32 (ZN.right : Int), .int .i64 ZN.size, .int .i64 ZN.sum, .int .i64 ZN.mn, .int .i64 ZN.mx] 40) = w17 at hs16 ⊢
      generalize w16.heap.size = gz at hs16 ⊢
      have HS17 := Lib.hid hs16
      clear hs16
      rw [HZN.out] at HR2
      obtain ⟨⟨x0, x1, x2, x3, x4, x5, x6, x7⟩, -⟩ := row8_of (X := XN) (HS17.out.boxes (gx, Obj.cells #[Value.int .i64 XN.key, .int .i64 XN.val, .int .u32 (XN.left : Int), .int .u32 (XN.right : Int), .int .i64 XN.size, .int .i64 XN.sum, .int .i64 XN.mn, .int .i64 XN.mx] 40 (0, 0)) (by simp)).2
      obtain ⟨⟨y0, y1, y2, y3, y4, y5, y6, y7⟩, -⟩ := row8_of (X := YN) (HS17.out.boxes (gy, Obj.cells #[Value.int .i64 YN.key, .int .i64 YN.val, .int .u32 (YN.left : Int), .int .u32 (YN.right : Int), .int .i64 YN.size, .int .i64 YN.sum, .int .i64 YN.mn, .int .i64 YN.mx] 40 (0, 0)) (by simp)).2
      obtain ⟨⟨p0, p1, p2, p3, p4, p5, p6, p7⟩, -⟩ := row8_of (X := PN) (HS17.out.boxes (gp, Obj.cells #[Value.int .i64 PN.key, .int .i64 PN.val, .int .u32 (PN.left : Int), .int .u32 (PN.right : Int), .int .i64 PN.size, .int .i64 PN.sum, .int .i64 PN.mn, .int .i64 PN.mx] 40 (0, 0)) (by simp)).2
      obtain ⟨⟨z0, z1, z2, z3, z4, z5, z6, z7⟩, -⟩ := row8_of (X := ZN) (HS17.out.boxes (gz, Obj.cells #[Value.int .i64 ZN.key, .int .i64 ZN.val, .int .u32 (ZN.left : Int), .int .u32 (ZN.right : Int), .int .i64 ZN.size, .int .i64 ZN.sum, .int .i64 ZN.mn, .int .i64 ZN.mx] 40 (0, 0)) (by simp)).2
      obtain ⟨d0, d1⟩ := two_cells (HS17.out.boxes (qd, Obj.cells #[.slice da N dc, .slice db M dd] 32 (0, 0)) (by simp)).2
      obtain ⟨n0, n1⟩ := two_cells (HS17.out.boxes (qn, Obj.cells #[.slice na N nc, .slice nb M4 nd] 32 (0, 0)) (by simp)).2
      go_wp2_with fail
      refine (is12_any YN PN PN.left YN.right _).mono ?_
      rintro e w18 ⟨rfl, hb18⟩
      rw [HR1.out]
      have HS18 := Lib.hid (HS17.out.calm hb18)
      clear hb18 HS17 x0 x1 x2 x3 x4 x5 x6 x7 y0 y1 y2 y3 y4 y5 y6 y7 p0 p1 p2 p3 p4 p5 p6 p7 z0 z1 z2 z3 z4 z5 z6 z7 d0 d1 n0 n1
      obtain ⟨⟨x0, x1, x2, x3, x4, x5, x6, x7⟩, -⟩ := row8_of (X := XN) (HS18.out.boxes (gx, Obj.cells #[Value.int .i64 XN.key, .int .i64 XN.val, .int .u32 (XN.left : Int), .int .u32 (XN.right : Int), .int .i64 XN.size, .int .i64 XN.sum, .int .i64 XN.mn, .int .i64 XN.mx] 40 (0, 0)) (by simp)).2
      obtain ⟨⟨y0, y1, y2, y3, y4, y5, y6, y7⟩, -⟩ := row8_of (X := YN) (HS18.out.boxes (gy, Obj.cells #[Value.int .i64 YN.key, .int .i64 YN.val, .int .u32 (YN.left : Int), .int .u32 (YN.right : Int), .int .i64 YN.size, .int .i64 YN.sum, .int .i64 YN.mn, .int .i64 YN.mx] 40 (0, 0)) (by simp)).2
      obtain ⟨⟨p0, p1, p2, p3, p4, p5, p6, p7⟩, -⟩ := row8_of (X := PN) (HS18.out.boxes (gp, Obj.cells #[Value.int .i64 PN.key, .int .i64 PN.val, .int .u32 (PN.left : Int), .int .u32 (PN.right : Int), .int .i64 PN.size, .int .i64 PN.sum, .int .i64 PN.mn, .int .i64 PN.mx] 40 (0, 0)) (by simp)).2
      obtain ⟨⟨z0, z1, z2, z3, z4, z5, z6, z7⟩, -⟩ := row8_of (X := ZN) (HS18.out.boxes (gz, Obj.cells #[Value.int .i64 ZN.key, .int .i64 ZN.val, .int .u32 (ZN.left : Int), .int .u32 (ZN.right : Int), .int .i64 ZN.size, .int .i64 ZN.sum, .int .i64 ZN.mn, .int .i64 ZN.mx] 40 (0, 0)) (by simp)).2
      obtain ⟨d0, d1⟩ := two_cells (HS18.out.boxes (qd, Obj.cells #[.slice da N dc, .slice db M dd] 32 (0, 0)) (by simp)).2
      obtain ⟨n0, n1⟩ := two_cells (HS18.out.boxes (qn, Obj.cells #[.slice na N nc, .slice nb M4 nd] 32 (0, 0)) (by simp)).2
      go_wp2_with fail
      refine (is12_any ZN XN PN.right XN.right _).mono ?_
      rintro e w19 ⟨rfl, hb19⟩
      rw [HR2.out]
      have HS19 := Lib.hid (HS18.out.calm hb19)
      clear hb19 HS18 x0 x1 x2 x3 x4 x5 x6 x7 y0 y1 y2 y3 y4 y5 y6 y7 p0 p1 p2 p3 p4 p5 p6 p7 z0 z1 z2 z3 z4 z5 z6 z7 d0 d1 n0 n1
      obtain ⟨⟨x0, x1, x2, x3, x4, x5, x6, x7⟩, -⟩ := row8_of (X := XN) (HS19.out.boxes (gx, Obj.cells #[Value.int .i64 XN.key, .int .i64 XN.val, .int .u32 (XN.left : Int), .int .u32 (XN.right : Int), .int .i64 XN.size, .int .i64 XN.sum, .int .i64 XN.mn, .int .i64 XN.mx] 40 (0, 0)) (by simp)).2
      obtain ⟨⟨y0, y1, y2, y3, y4, y5, y6, y7⟩, -⟩ := row8_of (X := YN) (HS19.out.boxes (gy, Obj.cells #[Value.int .i64 YN.key, .int .i64 YN.val, .int .u32 (YN.left : Int), .int .u32 (YN.right : Int), .int .i64 YN.size, .int .i64 YN.sum, .int .i64 YN.mn, .int .i64 YN.mx] 40 (0, 0)) (by simp)).2
      obtain ⟨⟨p0, p1, p2, p3, p4, p5, p6, p7⟩, -⟩ := row8_of (X := PN) (HS19.out.boxes (gp, Obj.cells #[Value.int .i64 PN.key, .int .i64 PN.val, .int .u32 (PN.left : Int), .int .u32 (PN.right : Int), .int .i64 PN.size, .int .i64 PN.sum, .int .i64 PN.mn, .int .i64 PN.mx] 40 (0, 0)) (by simp)).2
      obtain ⟨⟨z0, z1, z2, z3, z4, z5, z6, z7⟩, -⟩ := row8_of (X := ZN) (HS19.out.boxes (gz, Obj.cells #[Value.int .i64 ZN.key, .int .i64 ZN.val, .int .u32 (ZN.left : Int), .int .u32 (ZN.right : Int), .int .i64 ZN.size, .int .i64 ZN.sum, .int .i64 ZN.mn, .int .i64 ZN.mx] 40 (0, 0)) (by simp)).2
      obtain ⟨d0, d1⟩ := two_cells (HS19.out.boxes (qd, Obj.cells #[.slice da N dc, .slice db M dd] 32 (0, 0)) (by simp)).2
      obtain ⟨n0, n1⟩ := two_cells (HS19.out.boxes (qn, Obj.cells #[.slice na N nc, .slice nb M4 nd] 32 (0, 0)) (by simp)).2
      go_wp2_with fail
      refine (fresh12_any (a := da) (b := db) (N := N) (c := dc) (m := M) (d := dd) (a' := na) (b' := nb) (c' := nc) (m' := M4) (d' := nd) (i := YN.right) (HRD.out HS19.out) HINV.out.ok HN.out (HRN4.out HS19.out) HTU.out.inv.ok HN4.out HR6.out).mono ?_
      rintro e w20 ⟨rfl, hb20⟩
      rw [HR3.out]
      have HS20 := Lib.hid (HS19.out.calm hb20)
      clear hb20 HS19 x0 x1 x2 x3 x4 x5 x6 x7 y0 y1 y2 y3 y4 y5 y6 y7 p0 p1 p2 p3 p4 p5 p6 p7 z0 z1 z2 z3 z4 z5 z6 z7 d0 d1 n0 n1
      obtain ⟨d0, d1⟩ := two_cells (HS20.out.boxes (qd, Obj.cells #[.slice da N dc, .slice db M dd] 32 (0, 0)) (by simp)).2
      obtain ⟨n0, n1⟩ := two_cells (HS20.out.boxes (qn, Obj.cells #[.slice na N nc, .slice nb M4 nd] 32 (0, 0)) (by simp)).2
      go_wp2_with fail
      refine (fresh12_any (a := da) (b := db) (N := N) (c := dc) (m := M) (d := dd) (a' := na) (b' := nb) (c' := nc) (m' := M4) (d' := nd) (i := j) (HRD.out HS20.out) HINV.out.ok HN.out (HRN4.out HS20.out) HTU.out.inv.ok HN4.out HR7.out).mono ?_
      rintro e w21 ⟨rfl, hb21⟩
      rw [HR4.out]
      have HS21 := Lib.hid (HS20.out.calm hb21)
      clear hb21 HS20 d0 d1 n0 n1
      obtain ⟨d0, d1⟩ := two_cells (HS21.out.boxes (qd, Obj.cells #[.slice da N dc, .slice db M dd] 32 (0, 0)) (by simp)).2
      obtain ⟨n0, n1⟩ := two_cells (HS21.out.boxes (qn, Obj.cells #[.slice na N nc, .slice nb M4 nd] 32 (0, 0)) (by simp)).2
      go_wp2_with fail
      refine HS21.out.free.mono ?_
      rintro e w22 ⟨rfl, hs22⟩
      rw [HM5.out]
      have HS22 := Lib.hid hs22
      clear hs22 HS21 d0 d1 n0 n1
      have wf : IntKind.i64.wrap ((sp : Int) - 2) = (M4 : Int) := by rw [IntKind.wrap_i64]; have h1 := HM4.out; have h2 := HSP.out; omega
      obtain ⟨d0, d1⟩ := two_cells (HS22.out.boxes (qd, Obj.cells #[.slice da N dc, .slice db M dd] 32 (0, 0)) (by simp)).2
      obtain ⟨n0, n1⟩ := two_cells (HS22.out.boxes (qn, Obj.cells #[.slice na N nc, .slice nb M4 nd] 32 (0, 0)) (by simp)).2
      go_wp2_with fail
      refine (kept_any (a := da) (b := db) (n := N) (c := dc) (m := M) (d := dd) (a' := na) (b' := nb) (c' := nc) (m' := M4) (d' := nd) (HRD.out HS22.out) (HRN4.out HS22.out) (turned_keptS HTU.out) (by have h1 := HINV.out.ok.cap2; have h2 := HN.out; omega)).mono ?_
      rintro e w23 ⟨rfl, hb23⟩
      have hmr := (HMR.out (HS22.out.calm hb23)).calm (below_new7 w23 (Obj.cells #[Value.int .u32 (j : Int)] 28))
      have hrow := hmr.rows ⟨28, 1, .slice (some ⟨gm, 0, none⟩) L xc, L, u32s l⟩ (by simp)
      have hB := hmr.mr.hB
      have hnew := cell_new1 w23 (Value.int .u32 (j : Int)) 28
      have HMS := Lib.hid hmr
      have hLi41 : (L : Int) ≤ 41 := by have := HLL.out; omega
      clear hb23 HS22 hmr d0 d1 n0 n1
      go_wp2_with (at_builtin; refine wpList_append_g (by rfl) (.tmp 172) (.tmp 174) 24 rfl w.heap.size 28 i0 (.int .u32 0) 1 4 Try.underlying24 ji jz0 jz1 jz2 rfl (by decide) _ L (u32s l) rfl hrow ⟨w23.heap.size, 0, none⟩ 1 1 [.int .u32 (j : Int)] rfl rfl hnew (one_cell1 _ _) (by unfold maxLen; omega) (by omega) hB ?_; intro v6 wf6 ho6 hg6 hv6)
      obtain ⟨va, vc, rfl⟩ := row_val ho6
      have hsf := HMS.out.grew ho6 hg6 hv6
      have hlen : (l ++ [j]).length = L + 1 := by rw [List.length_append, HLL.out.1]; rfl
      have hj0 : j ≠ 0 := by intro h; subst h; have h1 := HR4.out; have h2 : A4.σ.on 0 = true := by simp only [Bool.and_eq_true] at h1; exact h1.1
                             have := HTU.out.inv.ok.on 0 h2; omega
      have hon : A4.σ.on j = true := by have h1 := HR4.out; simp only [Bool.and_eq_true] at h1; exact h1.1
      have hut : U32At wf6 va (l ++ [j]) := row_u32 (c := vc) (by rw [hlen, u32s_app]; exact ho6) (fun y hy => by
        rcases List.mem_append.1 hy with hy | hy
        · exact idx_lt4 HINV.out y hy
        · simp at hy; subst hy; exact HR7.out)
      have hiv : A4.Inv [] (hof (l ++ [j])) := by rw [hof_more l hj0]; exact HTU.out.inv
      refine (hsf.sound HCHK.out hiv HTU.out.agg hut (L := L + 1) hlen (by have := HLL.out; omega) (fun x hx => ?_)).mono ?_
      · rcases List.mem_append.1 hx with hx | hx
        · exact (held_idx HINV.out (.inr hx)).imp_right (HTU.out.kept.on x)
        · simp at hx; subst hx; exact .inr hon
      rintro e wz ⟨rfl, hbz⟩
      have HB := Lib.hid (hsf.calm hbz).below
      clear hbz hsf ho6 hg6 hv6 hut hiv hrow hB hnew
      go_wp2_with fail
      go_ret
      exact ⟨rfl, HB.out⟩
end Go.Proofs.Ytkhfofpbmnapjaa
