/- RotateDouble over contracts. -/
import Derived.Test.YtkhfofpbmnapjaaRotOrd
import Derived.Test.YtkhfofpbmnapjaaStepsIn
import Derived.Test.YtkhfofpbmnapjaaBox8
import Derived.Test.YtkhfofpbmnapjaaSameDump
import Derived.Test.YtkhfofpbmnapjaaRefKept
import Derived.Test.YtkhfofpbmnapjaaDp3
set_option linter.unusedVariables false
set_option linter.unusedSimpArgs false
namespace Go.Proofs.Ytkhfofpbmnapjaa
open Go.RowKit
theorem nz_onD {C : Ar} {i : Nat} (h : C.σ.on i = true) : C.nz i = C.nd i := by unfold Ar.nz; rw [h]; rfl
theorem isB_trueD {x e : Nd} {l r : Nat} (h : isNd x e l r) : isB x e l r = true := by
  obtain ⟨h1, h2, h3, h4⟩ := h
  unfold isB
  simp [h1, h2, h3, h4]
theorem on_ltD {C : Ar} {held : Nat → Nat} (hC : C.Inv [] held) {x : Nat} (h : C.σ.on x = true) : x < 4294967296 := by
  have h1 := hC.ok.on x h
  have h2 := hC.ok.cap2
  omega
theorem new_freshD {A B : Ar} {j : Nat} (h : NewIn A B j) : (B.σ.on j && !A.σ.on j) = true := by rw [h.1, h.2]; rfl
theorem turned_keptD {A B : Ar} {held : Nat → Nat} {j n N : Nat} (h : Turned A held B j n) : KeptS N A.sl B.sl := fun x _ hx => ⟨h.kept.on _ hx, h.kept.nd _ hx, h.gen _ hx⟩
theorem nz_kids {A : Ar} {held : Nat → Nat} (hA : A.Inv [] held) (i : Nat) : (A.nz i).left < 4294967296 ∧ (A.nz i).right < 4294967296 := by
  by_cases h : A.σ.on i = true
  · rw [nz_onD h]
    have hc := hA.child i h
    have hcap := hA.ok.cap2
    refine ⟨?_, ?_⟩
    · rcases hc.1 with h1 | h1
      · omega
      · have := hA.ok.on _ h1; omega
    · rcases hc.2 with h1 | h1
      · omega
      · have := hA.ok.on _ h1; omega
  · have h2 : A.σ.on i = false := by simpa using h
    have e : A.nz i = Nd.zero := by unfold Ar.nz; rw [h2]; rfl
    rw [e]
    exact ⟨by decide, by decide⟩
def DFacts (A B : Ar) (j : Nat) (P Q R : Nd) : Prop :=
  isB (B.nz j) Q (B.nz j).left (B.nz j).right = true ∧ isB (B.nz (B.nz j).left) P P.left Q.left = true ∧ isB (B.nz (B.nz j).right) R Q.right R.right = true ∧
  (B.σ.on j && !A.σ.on j) = true ∧ (B.σ.on (B.nz j).left && !A.σ.on (B.nz j).left) = true ∧ (B.σ.on (B.nz j).right && !A.σ.on (B.nz j).right) = true ∧ j < 4294967296
theorem dfacts {A B : Ar} {held : Nat → Nat} {j : Nat} {P Q R : Nd} (hB : B.Inv [] held) (h : dnodes A B j P Q R) : DFacts A B j P Q R := by
  obtain ⟨y, z, _, n1, n2, n3, n4, n5, n6⟩ := h
  have hy : (B.nd j).left = y := n4.2.2.1
  have hz : (B.nd j).right = z := n4.2.2.2
  unfold DFacts
  rw [nz_onD n1.1, hy, hz, nz_onD n2.1, nz_onD n3.1]
  exact ⟨isB_trueD n4, isB_trueD n5, isB_trueD n6, new_freshD n1, new_freshD n2, new_freshD n3, on_ltD hB n1.1⟩
theorem rdbl2 {A B : Ar} {held held' : Nat → Nat} {i j : Nat} (hA : A.Inv [] held) (hB : B.Inv [] held') (hf : rform A 2 i = true) (hn : RNodes A B 2 i j) : DFacts A B j (A.nz i) (A.nz (A.nz (A.nz i).right).left) (A.nz (A.nz i).right) := by
  have hon := rform_on hf
  have hr0 : (A.nd i).right ≠ 0 ∧ (A.nd (A.nd i).right).left ≠ 0 := by unfold rform at hf; rw [hon] at hf; simpa using hf
  have hr := (hA.child i hon).2.resolve_left hr0.1
  have hq := (hA.child _ hr).1.resolve_left hr0.2
  rw [nz_onD hon, nz_onD hr, nz_onD hq]
  exact dfacts hB hn
theorem rdbl3 {A B : Ar} {held held' : Nat → Nat} {i j : Nat} (hA : A.Inv [] held) (hB : B.Inv [] held') (hf : rform A 3 i = true) (hn : RNodes A B 3 i j) : DFacts A B j (A.nz (A.nz i).left) (A.nz (A.nz (A.nz i).left).right) (A.nz i) := by
  have hon := rform_on hf
  have hr0 : (A.nd i).left ≠ 0 ∧ (A.nd (A.nd i).left).right ≠ 0 := by unfold rform at hf; rw [hon] at hf; simpa using hf
  have hr := (hA.child i hon).1.resolve_left hr0.1
  have hq := (hA.child _ hr).2.resolve_left hr0.2
  rw [nz_onD hon, nz_onD hr, nz_onD hq]
  exact dfacts hB hn
def dst21 : Nat → Tmp
  | 0 => 89
  | 1 => 90
  | 2 => 91
  | _ => 95
def ci21 : Nat → Nat
  | 0 => 5
  | 1 => 6
  | 2 => 7
  | _ => 11
def val21 (RN QN : Nd) : Nat → Value
  | 0 => .agg #[Value.int .i64 RN.key, .int .i64 RN.val, .int .u32 (RN.left : Int), .int .u32 (RN.right : Int), .int .i64 RN.size, .int .i64 RN.sum, .int .i64 RN.mn, .int .i64 RN.mx]
  | 1 => .int .u32 (RN.left : Int)
  | 2 => .agg #[Value.int .i64 QN.key, .int .i64 QN.val, .int .u32 (QN.left : Int), .int .u32 (QN.right : Int), .int .i64 QN.size, .int .i64 QN.sum, .int .i64 QN.mn, .int .i64 QN.mx]
  | _ => .agg #[Value.int .i64 RN.key, .int .i64 RN.val, .int .u32 (RN.left : Int), .int .u32 (RN.right : Int), .int .i64 RN.size, .int .i64 RN.sum, .int .i64 RN.mn, .int .i64 RN.mx]
def lst21 (k : Nat) (b1 b2 b3 : Bool) : Array Bool := #[true, true, true, true, true, decide (0 < k), decide (1 < k), decide (2 < k), true, true, true, decide (3 < k), b1, b2, b3, false, false, false]
theorem five (k : Nat) (h : k ≤ 4) : k = 0 ∨ k = 1 ∨ k = 2 ∨ k = 3 ∨ k = 4 := by omega
theorem four (k : Nat) (h : k < 4) : k = 0 ∨ k = 1 ∨ k = 2 ∨ k = 3 := by omega
theorem take_d {P : Program} {ops : Array Oper} {Q : Exit → Act → World → Prop} {md : Region.Mode} {S : World → Prop} {i : Nat} {oi : Oper} {v : Value} {fuel : Nat} {listed : Array Bool} {a : Act} {w : World} (d : Option Tmp) (hi : ops[i]? = some oi)
    (hs : Region.noSelect ops = true) (hf : Region.free md ops listed i = true) (hr : (Region.ready md ops listed).contains i = true)
    (hQ : ∀ c a w, Q (.panic c) (a.put oi.dst v) w → Q (.panic c) a w) (hy : YieldsIf P ops S oi v a) (hS : S w) (hd : oi.dst = d)
    (h : wpAnyH P md ops Q S fuel (listed.setIfInBounds i true) (a.put d v) w) : wpAnyH P md ops Q S (fuel + 1) listed a w :=
  wpAnyH_take hi hs hf hr hQ hy hS (by rw [hd]; exact h)
set_option maxHeartbeats 16000000 in
set_option maxRecDepth 100000 in
theorem rdouble_walk (hchk : CheckSpec) (I : AImpl) (K : RotImpl I) {a : Option Addr} {n c : Nat} {which spare : Int} {right : Bool} {w : World} (hl : Steps12 w a n) (hc : n ≤ c) (hm : c ≤ maxLen) (hw : i64R which) (hs0 : 0 ≤ spare) (hs1 : spare < 256) :
    Calls Try.prog 4 #[.slice a n c, .int .i64 which, .bool right, .int .u8 spare] w (Calm w (.bool true)) := by
  obtain ⟨i0, ji, jz0, jz1, jz2⟩ := info_parts uInfo
  have HK := Lib.hid K
  have HCHK := Lib.hid hchk
  have HL := Lib.hid hl
  have HWH := Lib.hid hw
  obtain ⟨sp, hsp⟩ : ∃ sp : Nat, spare.tmod 6 = (sp : Int) := ⟨(spare.tmod 6).toNat, by rw [Int.tmod_eq_emod_of_nonneg hs0]; omega⟩
  have hsp5 : sp ≤ 5 := by rw [Int.tmod_eq_emod_of_nonneg hs0] at hsp; omega
  have HSP := Lib.hid hsp5
  have HSPE := Lib.hid hsp
  have v0 : IntKind.i64.wrap (sp : Int) = (sp : Int) := by rw [IntKind.wrap_i64]; omega
  have HC := Lib.hid (And.intro hc hm)
  clear K hchk hl hw hs0 hs1 hsp5 hc hm
  go_enter Try.func4, Try.ntmps4
  go_wp2_with fail
  refine (build12_any I a n c sp w HL.out HC.out.1 HC.out.2 (by have := HSP.out; omega)).mono ?_
  rintro e w1 ⟨p, A, xa, xc, l, rfl, hfr, hl0, hl27, hwfa, hT⟩
  have HWFA := Lib.hid hwfa
  clear hwfa
  clear HL HC
  have hT2 := hT
  obtain ⟨F0, hF0, _⟩ := hT.has
  obtain ⟨pa, rfl⟩ := I.ptr hF0
  obtain ⟨L, hL⟩ : ∃ L, l.length = L := ⟨_, rfl⟩
  rw [hL] at hl0 hl27 hT ⊢
  have HINV : Hid (A.Inv [] (hof l)) := hT.inv
  have HAGG : Hid A.Agg := hT.agg
  have HS1 := Lib.hid (hT.scn hL)
  have HLL : Hid (l.length = L ∧ 0 < L ∧ L ≤ 27) := ⟨hL, hl0, hl27⟩
  have HFR := Lib.hid hfr
  clear hT hT2 hF0 hfr
  go_wp2_with fail
  refine (awake12_any I HK.out w1).mono ?_
  rintro e w2 ⟨rfl, hb2⟩
  have HS2 := Lib.hid (HS1.out.calm hb2)
  clear hb2 HS1
  obtain ⟨k, hk1, hk⟩ : ∃ k : Nat, k ≤ 3 ∧ k = if right then 3 else 2 := ⟨if right then 3 else 2, by cases right <;> decide, rfl⟩
  have HKR := Lib.hid hk
  have HK3 := Lib.hid hk1
  go_upto_if 42 with fail
  go_cut [12] from 43 to 188 (fun s11 wx => s11 = .int .i64 (k : Int) ∧ wx = w2)
  case first =>
    cases right
    · go_wp2_with fail
      go_meet
      exact ⟨by rw [hk]; rfl, rfl⟩
    · go_wp2_with fail
      go_meet
      exact ⟨by rw [hk]; rfl, rfl⟩
  case' rest =>
  obtain ⟨rfl, rfl⟩ := hcut
  clear hk hk1
  have hLi : (1 : Int) ≤ (L : Int) := by omega
  have hx6 := Int.emod_nonneg which (b := (L : Int)) (by omega)
  have hx7 := Int.emod_lt_of_pos which (b := (L : Int)) (by omega)
  obtain ⟨ix, hix⟩ := Int.eq_ofNat_of_zero_le hx6
  have hiL : ix < L := by omega
  have HMX : Hid (∀ wx, Calls Try.prog 9 #[.int .i64 which, .int .i64 (L : Int)] wx (fun e w' => e = .returned (.int .i64 (ix : Int)) ∧ w' = wx)) := fun wx => (mod_any which L wx HWH.out.1 HWH.out.2 hLi (by omega)).mono fun e w' ⟨h1, h2⟩ => ⟨by rw [h1, hix], h2.symm⟩
  have hrow := HS2.out.rows ⟨28, 1, .slice xa L xc, L, u32s l⟩ (by simp)
  obtain ⟨gm, rfl, hgm, hci⟩ := row_cell hrow hiL
  have hil : ix < l.length := by rw [hL]; exact hiL
  rw [held_get hil] at hci
  have hmem := getD_in hil
  obtain ⟨X, hX⟩ : ∃ X, l.getD ix 0 = X := ⟨_, rfl⟩
  rw [hX] at hci hmem
  have HXI : Hid (X < 4294967296 ∧ A.Idx X) := ⟨idx_lt4 HINV.out X hmem, held_idx HINV.out (.inr hmem)⟩
  have hii : (ix : Int) < (L : Int) := by omega
  have hi0 : (0 : Int) ≤ (ix : Int) := by omega
  clear hx6 hx7 hix hiL hrow hgm hil hmem hX hL hl0 hl27
  go_wp2_with fail
  refine (HMX.out _).mono ?_
  rintro e w3 ⟨rfl, rfl⟩
  go_wp2_with fail
  refine HS2.out.dump.mono ?_
  rintro e w4 ⟨da, dc, db, dd, rfl, hs4, hb4⟩
  clear hci hii hi0 HMX
  have hs5 := hs4.box #[.slice da A.σ.cap dc, .slice db A.σ.free.length dd] 32
  clear hs4 hb4 HS2
  go_upto_region 9 with fail
  generalize w4.alloc (Obj.cells #[.slice da A.σ.cap dc, .slice db A.σ.free.length dd] 32) = w5 at hs5 ⊢
  generalize w4.heap.size = qd at hs5 ⊢
  obtain ⟨N, hN⟩ : ∃ N, A.σ.cap = N := ⟨_, rfl⟩
  rw [hN] at hs5 ⊢
  have HN := Lib.hid hN
  have HS5 := Lib.hid hs5
  clear hs5 hN
  go_wp2_with fail
  refine (HS5.out.mut fun F hI => (call12_res I HK.out _ hI HINV.out HAGG.out HWFA.out (fun j => Nat.le_trans (hof_le l j) (by have := HLL.out; omega)) (by decide) (by decide) HXI.out.1 HK3.out).mono fun e w' h => h.mut).mono ?_
  rintro e w6 ⟨A4, rd4, ⟨hr0, hr1, hq⟩, hs6⟩
  have HS6 := Lib.hid hs6
  clear hs6 hr0 hr1 HS5
  have HRW : Hid (∀ {wx : World} {A' : Ar} {rd : Int} {rs' : List Row} {bs : List (Nat × Obj)}, Scn I w.heap.size w wx (.pointer (some pa)) A' rd (rs' ++ [⟨28, 1, .slice db A.σ.free.length dd, A.σ.free.length, u32s A.σ.free⟩, ⟨75, 11, .slice da N dc, N, slotsV A⟩, ⟨28, 1, .slice (some ⟨gm, 0, none⟩) L xc, L, u32s l⟩]) bs → SlotsAt wx da N A.sl) := fun h => h.slots_of (c := dc) HINV.out HN.out (by simp)
  rcases hq with ⟨q1, rfl, rfl⟩ | ⟨q1, q2, rfl, rfl⟩ | ⟨q1, q2, j, ht, hn, rfl⟩
  · have HQ1 := Lib.hid q1
    clear q1
    go_wp2_with fail
    refine HS6.out.dump.mono ?_
    rintro e w7 ⟨na, nc, nb, nd, rfl, hs7, hb7⟩
    have hs8 := hs7.box #[.slice na A4.σ.cap nc, .slice nb A4.σ.free.length nd] 32
    clear hs7 hb7 HS6
    go_upto_region 11 with fail
    generalize w7.alloc (Obj.cells #[.slice na A4.σ.cap nc, .slice nb A4.σ.free.length nd] 32) = w8 at hs8 ⊢
    generalize w7.heap.size = qn at hs8 ⊢
    rw [HN.out] at hs8 ⊢
    have HS8 := Lib.hid hs8
    clear hs8
    obtain ⟨d0, d1⟩ := two_cells (HS8.out.boxes (qd, Obj.cells #[.slice da N dc, .slice db A4.σ.free.length dd] 32 (0, 0)) (by simp)).2
    go_wp2_with fail
    refine (formed12_any (HS8.out.slots_of (c := dc) HINV.out HN.out (by simp)) HINV.out.ok HN.out HXI.out.1 HK3.out (fun j hj => HINV.out.child j hj)).mono ?_
    rintro e w9 ⟨rfl, hb9⟩
    rw [HQ1.out]
    have HS9 := Lib.hid (HS8.out.calm hb9)
    clear hb9 HS8 d0 d1
    obtain ⟨d0, d1⟩ := two_cells (HS9.out.boxes (qd, Obj.cells #[.slice da N dc, .slice db A4.σ.free.length dd] 32 (0, 0)) (by simp)).2
    obtain ⟨n0, n1⟩ := two_cells (HS9.out.boxes (qn, Obj.cells #[.slice na N nc, .slice nb A4.σ.free.length nd] 32 (0, 0)) (by simp)).2
    skip
    have hsp := HSPE.out
    go_wp2_with fail
    refine (same_dump A4.σ.free rfl (HS9.out.slots_of (c := dc) HINV.out HN.out (by simp)) (HS9.out.slots_of (c := nc) HINV.out HN.out (by simp)) (HS9.out.rows ⟨28, 1, .slice db A4.σ.free.length dd, A4.σ.free.length, u32s A4.σ.free⟩ (by simp)) (HS9.out.rows ⟨28, 1, .slice nb A4.σ.free.length nd, A4.σ.free.length, u32s A4.σ.free⟩ (by simp)) (by have := HINV.out.ok.cap2; have := HN.out; omega) (by have := HFR.out; have := HSP.out; omega)).mono ?_
    rintro e w10 ⟨rfl, hb10⟩
    have HB := Lib.hid (HS9.out.calm hb10).below
    clear hb10 HS9 d0 d1 n0 n1
    go_wp2_with fail
    go_ret
    exact ⟨rfl, HB.out⟩
  · have HLT : Hid (sp < 3) := by
      have h2 : rneed k = 3 := by have h3 := HKR.out; unfold rneed; rw [if_neg]; cases right <;> simp at h3 <;> omega
      rw [h2, HFR.out] at q2
      exact q2
    have HQ1 := Lib.hid q1
    clear q1 q2
    go_wp2_with fail
    refine HS6.out.dump.mono ?_
    rintro e w7 ⟨na, nc, nb, nd, rfl, hs7, hb7⟩
    have hs8 := hs7.box #[.slice na A4.σ.cap nc, .slice nb A4.σ.free.length nd] 32
    clear hs7 hb7 HS6
    go_upto_region 11 with fail
    generalize w7.alloc (Obj.cells #[.slice na A4.σ.cap nc, .slice nb A4.σ.free.length nd] 32) = w8 at hs8 ⊢
    generalize w7.heap.size = qn at hs8 ⊢
    rw [HN.out] at hs8 ⊢
    have HS8 := Lib.hid hs8
    clear hs8
    obtain ⟨d0, d1⟩ := two_cells (HS8.out.boxes (qd, Obj.cells #[.slice da N dc, .slice db A4.σ.free.length dd] 32 (0, 0)) (by simp)).2
    go_wp2_with fail
    refine (formed12_any (HS8.out.slots_of (c := dc) HINV.out HN.out (by simp)) HINV.out.ok HN.out HXI.out.1 HK3.out (fun j hj => HINV.out.child j hj)).mono ?_
    rintro e w9 ⟨rfl, hb9⟩
    rw [HQ1.out]
    have HS9 := Lib.hid (HS8.out.calm hb9)
    clear hb9 HS8 d0 d1
    obtain ⟨d0, d1⟩ := two_cells (HS9.out.boxes (qd, Obj.cells #[.slice da N dc, .slice db A4.σ.free.length dd] 32 (0, 0)) (by simp)).2
    obtain ⟨n0, n1⟩ := two_cells (HS9.out.boxes (qn, Obj.cells #[.slice na N nc, .slice nb A4.σ.free.length nd] 32 (0, 0)) (by simp)).2
    have hlt : decide ((sp : Int) < 3) = true := decide_eq_true (by have := HLT.out; omega)
    have hsp := HSPE.out
    go_wp2_with fail
    refine (same_dump A4.σ.free rfl (HS9.out.slots_of (c := dc) HINV.out HN.out (by simp)) (HS9.out.slots_of (c := nc) HINV.out HN.out (by simp)) (HS9.out.rows ⟨28, 1, .slice db A4.σ.free.length dd, A4.σ.free.length, u32s A4.σ.free⟩ (by simp)) (HS9.out.rows ⟨28, 1, .slice nb A4.σ.free.length nd, A4.σ.free.length, u32s A4.σ.free⟩ (by simp)) (by have := HINV.out.ok.cap2; have := HN.out; omega) (by have := HFR.out; have := HSP.out; omega)).mono ?_
    rintro e w10 ⟨rfl, hb10⟩
    have HB := Lib.hid (HS9.out.calm hb10).below
    clear hb10 HS9 d0 d1 n0 n1
    go_wp2_with fail
    go_ret
    exact ⟨rfl, HB.out⟩
  · have h2 : rneed k = 3 := by have h3 := HKR.out; unfold rneed; cases right <;> simp at h3 <;> rw [h3] <;> rfl
    rw [h2] at q2 ht
    have HTU := Lib.hid ht
    have HRN := Lib.hid hn
    have HQ1 := Lib.hid q1
    have HSP2 : Hid (3 ≤ sp) := by rw [HFR.out] at q2; exact q2
    have HN4 : Hid (A4.σ.cap = N) := ht.kept.cap.trans HN.out
    clear q1 q2 ht hn h2
    obtain ⟨M, hM⟩ : ∃ M, A.σ.free.length = M := ⟨_, rfl⟩
    rw [hM] at HS6
    clear hM
    go_wp2_with fail
    refine HS6.out.dump.mono ?_
    rintro e w7 ⟨na, nc, nb, nd, rfl, hs7, hb7⟩
    have hs8 := hs7.box #[.slice na A4.σ.cap nc, .slice nb A4.σ.free.length nd] 32
    clear hs7 hb7 HS6
    go_upto_region 11 with fail
    generalize w7.alloc (Obj.cells #[.slice na A4.σ.cap nc, .slice nb A4.σ.free.length nd] 32) = w8 at hs8 ⊢
    generalize w7.heap.size = qn at hs8 ⊢
    obtain ⟨M4, hM4⟩ : ∃ M, A4.σ.free.length = M := ⟨_, rfl⟩
    rw [HN4.out, hM4] at hs8 ⊢
    have HM4 : Hid (M4 + 3 = sp) := by have h1 := HTU.out.free; rw [hM4, HFR.out] at h1; exact h1
    have HM5 := Lib.hid hM4
    clear hM4
    generalize hrs : (⟨28, 1, .slice nb M4 nd, M4, u32s A4.σ.free⟩ : Row) :: _ = rs at hs8
    have HRD : Hid (∀ {wx : World} {rd : Int} {bs : List (Nat × Obj)}, Scn I w.heap.size w wx (.pointer (some pa)) A4 rd rs bs → SlotsAt wx da N A.sl) := fun h => h.slots_of (c := dc) HINV.out HN.out (by rw [← hrs]; simp)
    have HRN4 : Hid (∀ {wx : World} {rd : Int} {bs : List (Nat × Obj)}, Scn I w.heap.size w wx (.pointer (some pa)) A4 rd rs bs → SlotsAt wx na N A4.sl) := fun h => h.slots_of (c := nc) HTU.out.inv HN4.out (by rw [← hrs]; simp)
    have HMR : Hid (∀ {wx : World} {rd : Int} {bs : List (Nat × Obj)}, Scn I w.heap.size w wx (.pointer (some pa)) A4 rd rs bs → Scn I w.heap.size w wx (.pointer (some pa)) A4 rd [⟨28, 1, .slice (some ⟨gm, 0, none⟩) L xc, L, u32s l⟩] []) := fun h => h.less (by rw [← hrs]; simp) (List.nil_sublist _)
    have HS8 := Lib.hid hs8
    clear hs8 hrs HRW
    obtain ⟨d0, d1⟩ := two_cells (HS8.out.boxes (qd, Obj.cells #[.slice da N dc, .slice db M dd] 32 (0, 0)) (by simp)).2
    go_wp2_with fail
    refine (formed12_any (HRD.out HS8.out) HINV.out.ok HN.out HXI.out.1 HK3.out (fun j hj => HINV.out.child j hj)).mono ?_
    rintro e w9 ⟨rfl, hb9⟩
    rw [HQ1.out]
    have HS9 := Lib.hid (HS8.out.calm hb9)
    clear hb9 HS8 d0 d1
    have hlt : decide ((sp : Int) < 3) = false := decide_eq_false (by have := HSP2.out; omega)
    have hsp := HSPE.out
    obtain ⟨d0, d1⟩ := two_cells (HS9.out.boxes (qd, Obj.cells #[.slice da N dc, .slice db M dd] 32 (0, 0)) (by simp)).2
    go_wp2_with fail
    refine (at12_any (a := da) (b := db) (N := N) (c := dc) (m := M) (d := dd) (i := X) (HRD.out HS9.out) HINV.out.ok HN.out HXI.out.1).mono ?_
    rintro e w10 ⟨rfl, hb10⟩
    obtain ⟨XN, hXN⟩ : ∃ x, A.nz X = x := ⟨_, rfl⟩
    rw [hXN]
    have HXN := Lib.hid hXN
    unfold ndRow
    have hs10 := (HS9.out.calm hb10).box #[Value.int .i64 XN.key, .int .i64 XN.val, .int .u32 (XN.left : Int), .int .u32 (XN.right : Int), .int .i64 XN.size, .int .i64 XN.sum, .int .i64 XN.mn, .int .i64 XN.mx] 40
    clear hb10 HS9 hXN d0 d1
    go_upto_region 21 with fail
    generalize w10.alloc (Obj.cells #[Value.int .i64 XN.key, .int .i64 XN.val, .int .u32 (XN.left : Int), .int .u32 (XN.right : Int), .int .i64 XN.size, .int .i64 XN.sum, .int .i64 XN.mn, .int .i64 XN.mx] 40) = w11 at hs10 ⊢
    generalize w10.heap.size = gx at hs10 ⊢
    have HS11 := Lib.hid hs10
    clear hs10
    have HQL : Hid (qd < w11.heap.size) := (Array.getElem?_eq_some_iff.1 (HS11.out.boxes (qd, Obj.cells #[.slice da N dc, .slice db M dd] 32 (0, 0)) (by simp)).2).1
    have HGX : Hid (gx < w11.heap.size) := (Array.getElem?_eq_some_iff.1 (HS11.out.boxes (gx, Obj.cells #[Value.int .i64 XN.key, .int .i64 XN.val, .int .u32 (XN.left : Int), .int .u32 (XN.right : Int), .int .i64 XN.size, .int .i64 XN.sum, .int .i64 XN.mn, .int .i64 XN.mx] 40 (0, 0)) (by simp)).2).1
    have HAT : Hid (∀ wx, Below w11.heap.size w11 wx → ∀ x : Nat, x < 4294967296 → Calls Try.prog 14 #[.agg #[.slice da N dc, .slice db M dd], .int .u32 (x : Int)] wx (Calm wx (.agg (ndRow (A.nz x))))) := fun wx hx x h => at12_any (HRD.out (HS11.out.calm hx)) HINV.out.ok HN.out h
    have HXX : Hid (∀ wx, Below w11.heap.size w11 wx → (wx.cell? ⟨qd, 0, none⟩ = some (.slice da N dc) ∧ wx.cell? ⟨qd, 1, none⟩ = some (.slice db M dd)) ∧ (wx.cell? ⟨gx, 0, none⟩ = some (.int .i64 XN.key) ∧ wx.cell? ⟨gx, 1, none⟩ = some (.int .i64 XN.val) ∧ wx.cell? ⟨gx, 2, none⟩ = some (.int .u32 (XN.left : Int)) ∧ wx.cell? ⟨gx, 3, none⟩ = some (.int .u32 (XN.right : Int)) ∧ wx.cell? ⟨gx, 4, none⟩ = some (.int .i64 XN.size) ∧ wx.cell? ⟨gx, 5, none⟩ = some (.int .i64 XN.sum) ∧ wx.cell? ⟨gx, 6, none⟩ = some (.int .i64 XN.mn) ∧ wx.cell? ⟨gx, 7, none⟩ = some (.int .i64 XN.mx))) := fun wx hb => ⟨two_cells ((HS11.out.calm hb).boxes (qd, Obj.cells #[.slice da N dc, .slice db M dd] 32 (0, 0)) (by simp)).2, (row8_of (X := XN) ((HS11.out.calm hb).boxes (gx, Obj.cells #[Value.int .i64 XN.key, .int .i64 XN.val, .int .u32 (XN.left : Int), .int .u32 (XN.right : Int), .int .i64 XN.size, .int .i64 XN.sum, .int .i64 XN.mn, .int .i64 XN.mx] 40 (0, 0)) (by simp)).2).1⟩
    have HKS : Hid (∀ wx, Below w11.heap.size w11 wx → wx.cell? ⟨qd, 0, none⟩ = some (.slice da N dc) ∧ wx.cell? ⟨qd, 1, none⟩ = some (.slice db M dd) ∧ wx.cell? ⟨gx, 0, none⟩ = some (.int .i64 XN.key) ∧ wx.cell? ⟨gx, 1, none⟩ = some (.int .i64 XN.val) ∧ wx.cell? ⟨gx, 2, none⟩ = some (.int .u32 (XN.left : Int)) ∧ wx.cell? ⟨gx, 3, none⟩ = some (.int .u32 (XN.right : Int)) ∧ wx.cell? ⟨gx, 4, none⟩ = some (.int .i64 XN.size) ∧ wx.cell? ⟨gx, 5, none⟩ = some (.int .i64 XN.sum) ∧ wx.cell? ⟨gx, 6, none⟩ = some (.int .i64 XN.mn) ∧ wx.cell? ⟨gx, 7, none⟩ = some (.int .i64 XN.mx)) := fun wx hb => ⟨(HXX.out wx hb).1.1, (HXX.out wx hb).1.2, (HXX.out wx hb).2⟩
    have HAL : Hid (∀ wx o, Below w11.heap.size w11 wx → Below w11.heap.size w11 (wx.alloc o)) := fun wx o h1 => h1.trans ((below_newL wx o).mono h1.size)
    obtain ⟨RN, hRN⟩ : ∃ x, A.nz XN.right = x := ⟨_, rfl⟩
    obtain ⟨QN, hQN⟩ : ∃ x, A.nz RN.left = x := ⟨_, rfl⟩
    have HRNN := Lib.hid hRN
    have HQNN := Lib.hid hQN
    have HXR : Hid (XN.right < 4294967296) := by have h := (nz_kids HINV.out X).2; rw [HXN.out] at h; exact h
    have HRL : Hid (RN.left < 4294967296) := by have h := (nz_kids HINV.out XN.right).1; rw [hRN] at h; exact h
    have hfl := fun (w : World) => run_lft (.int .i64 RN.key) (.int .i64 RN.val) (.int .u32 (RN.left : Int)) (.int .u32 (RN.right : Int)) (.int .i64 RN.size) (.int .i64 RN.sum) (.int .i64 RN.mn) (.int .i64 RN.mx) w
    clear hRN hQN
    obtain ⟨⟨d0, d1⟩, ⟨x0, x1, x2, x3, x4, x5, x6, x7⟩⟩ := HXX.out w11 (Below.refl _ _)
    go_cut [20, 21, 22] (fun s20 s21 s22 wx => ∃ gp gq gr : Nat, s20 = .pointer (some ⟨gp, 0, none⟩) ∧ s21 = .pointer (some ⟨gq, 0, none⟩) ∧ s22 = .pointer (some ⟨gr, 0, none⟩) ∧ BX w11 wx [(gr, RN), (gq, QN), (gp, XN)])
    case first =>
      refine wp_region_noPanic ?_
      refine wp_region_held_drew (S := (fun w' => w'.cell? ⟨qd, 0, none⟩ = some (.slice da N dc) ∧ w'.cell? ⟨qd, 1, none⟩ = some (.slice db M dd) ∧ w'.cell? ⟨gx, 0, none⟩ = some (.int .i64 XN.key) ∧ w'.cell? ⟨gx, 1, none⟩ = some (.int .i64 XN.val) ∧ w'.cell? ⟨gx, 2, none⟩ = some (.int .u32 (XN.left : Int)) ∧ w'.cell? ⟨gx, 3, none⟩ = some (.int .u32 (XN.right : Int)) ∧ w'.cell? ⟨gx, 4, none⟩ = some (.int .i64 XN.size) ∧ w'.cell? ⟨gx, 5, none⟩ = some (.int .i64 XN.sum) ∧ w'.cell? ⟨gx, 6, none⟩ = some (.int .i64 XN.mn) ∧ w'.cell? ⟨gx, 7, none⟩ = some (.int .i64 XN.mx))) (by kernel_rfl) (HKS.out _ (Below.refl _ _).drew) (fun hHeld => ?_)
      refine take_d (i := 0) (oi := _) (v := ?_) (some 84) rfl (by kernel_rfl) (by kernel_rfl) (by kernel_rfl) (fun _ _ _ h => h) (Or.inl ⟨by rfl, ?_⟩) (by assumption) (by kernel_rfl) ?_
      rotate_left
      · intro w hSw; (try dsimp only at hSw); go_simp; try with_reducible rfl
      (try simp only [Act.put, List.setIfInBounds_toArray, List.set_cons_zero, List.set_cons_succ])
      refine take_d (i := 1) (oi := _) (v := ?_) (some 85) rfl (by kernel_rfl) (by kernel_rfl) (by kernel_rfl) (fun _ _ _ h => h) (Or.inl ⟨by rfl, ?_⟩) (by assumption) (by kernel_rfl) ?_
      rotate_left
      · intro w hSw; (try dsimp only at hSw); go_simp; try with_reducible rfl
      (try simp only [Act.put, List.setIfInBounds_toArray, List.set_cons_zero, List.set_cons_succ])
      refine take_d (i := 2) (oi := _) (v := ?_) (some 86) rfl (by kernel_rfl) (by kernel_rfl) (by kernel_rfl) (fun _ _ _ h => h) (Or.inl ⟨by rfl, ?_⟩) (by assumption) (by kernel_rfl) ?_
      rotate_left
      · intro w hSw; (try dsimp only at hSw); go_simp; try with_reducible rfl
      (try simp only [Act.put, List.setIfInBounds_toArray, List.set_cons_zero, List.set_cons_succ])
      refine take_d (i := 3) (oi := _) (v := ?_) (some 87) rfl (by kernel_rfl) (by kernel_rfl) (by kernel_rfl) (fun _ _ _ h => h) (Or.inl ⟨by rfl, ?_⟩) (by assumption) (by kernel_rfl) ?_
      rotate_left
      · intro w hSw; (try dsimp only at hSw); go_simp; try with_reducible rfl
      (try simp only [Act.put, List.setIfInBounds_toArray, List.set_cons_zero, List.set_cons_succ])
      refine take_d (i := 4) (oi := _) (v := ?_) (some 88) rfl (by kernel_rfl) (by kernel_rfl) (by kernel_rfl) (fun _ _ _ h => h) (Or.inl ⟨by rfl, ?_⟩) (by assumption) (by kernel_rfl) ?_
      rotate_left
      · intro w hSw; (try dsimp only at hSw); go_simp; try with_reducible rfl
      (try simp only [Act.put, List.setIfInBounds_toArray, List.set_cons_zero, List.set_cons_succ])
      refine take_d (i := 8) (oi := _) (v := ?_) (some 92) rfl (by kernel_rfl) (by kernel_rfl) (by kernel_rfl) (fun _ _ _ h => h) (Or.inl ⟨by rfl, ?_⟩) (by assumption) (by kernel_rfl) ?_
      rotate_left
      · intro w hSw; (try dsimp only at hSw); go_simp; try with_reducible rfl
      (try simp only [Act.put, List.setIfInBounds_toArray, List.set_cons_zero, List.set_cons_succ])
      refine take_d (i := 9) (oi := _) (v := ?_) (some 93) rfl (by kernel_rfl) (by kernel_rfl) (by kernel_rfl) (fun _ _ _ h => h) (Or.inl ⟨by rfl, ?_⟩) (by assumption) (by kernel_rfl) ?_
      rotate_left
      · intro w hSw; (try dsimp only at hSw); go_simp; try with_reducible rfl
      (try simp only [Act.put, List.setIfInBounds_toArray, List.set_cons_zero, List.set_cons_succ])
      refine take_d (i := 10) (oi := _) (v := ?_) (some 94) rfl (by kernel_rfl) (by kernel_rfl) (by kernel_rfl) (fun _ _ _ h => h) (Or.inl ⟨by rfl, ?_⟩) (by assumption) (by kernel_rfl) ?_
      rotate_left
      · intro w hSw; (try dsimp only at hSw); go_simp; try with_reducible rfl
      (try simp only [Act.put, List.setIfInBounds_toArray, List.set_cons_zero, List.set_cons_succ])
      refine boxes3 (f := 3) (n := 4) (w0 := w11) (ci := ci21) (dst := dst21) (val := val21 RN QN) (j1 := 12) (j2 := 13) (j3 := 14) (d1 := 20) (d2 := 21) (d3 := 22) (u1 := undef) (u2 := undef) (u3 := undef) (L := lst21) rfl (fun k hk => by rcases four k hk with rfl | rfl | rfl | rfl <;> decide) (by decide) (by decide) (by decide)
        (hr_of (fun k b1 b2 b3 hk => by rcases five k hk with rfl | rfl | rfl | rfl | rfl <;> cases b1 <;> cases b2 <;> cases b3 <;> kernel_rfl))
        (hne_of (fun k b1 b2 b3 hk => by rcases five k hk with rfl | rfl | rfl | rfl | rfl <;> cases b1 <;> cases b2 <;> cases b3 <;> kernel_rfl))
        (fun k b1 b2 b3 hk => by rcases four k hk with rfl | rfl | rfl | rfl <;> rfl) (fun _ _ _ _ => rfl) (fun _ _ _ _ => rfl) (fun _ _ _ _ => rfl) (fun w' hb => HKS.out w' hb) (fun k hk => ?_) ?_ ?_ ?_ ?_ (BX.refl w11).drew
      · rcases four k hk with rfl | rfl | rfl | rfl
        · intro o1 o2 o3 w' K hb hK
          refine wpOp_step (o := _) rfl (fun K' hK' => ?_)
          simp only [fullA, chA, dst21, ci21, val21, Act.put, List.setIfInBounds_toArray, List.set_cons_zero, List.set_cons_succ] at hK ⊢
          generalize pvO o1 undef = x1 at hK ⊢
          generalize pvO o2 undef = x2 at hK ⊢
          generalize pvO o3 undef = x3 at hK ⊢
          have HKK := Lib.hid hK'
          have HK0 := Lib.hid hK
          clear hK' hK
          go_simp
          go_at_call 14
          refine (HAT.out _ hb.below (XN.right) HXR.out).mono ?_
          rintro e wA ⟨rfl, hbA⟩
          rw [HRNN.out]
          unfold ndRow
          try go_wp2_with fail
          exact HKK.out _ _ (HK0.out _ hbA)
        · intro o1 o2 o3 w' K hb hK
          refine wpOp_step (o := _) rfl (fun K' hK' => ?_)
          simp only [fullA, chA, dst21, ci21, val21, Act.put, List.setIfInBounds_toArray, List.set_cons_zero, List.set_cons_succ] at hK ⊢
          generalize pvO o1 undef = x1 at hK ⊢
          generalize pvO o2 undef = x2 at hK ⊢
          generalize pvO o3 undef = x3 at hK ⊢
          have HKK := Lib.hid hK'
          have HK0 := Lib.hid hK
          clear hK' hK
          go_simp
          try go_wp2_with fail
          exact HKK.out _ _ (HK0.out _ (Below.refl _ _))
        · intro o1 o2 o3 w' K hb hK
          refine wpOp_step (o := _) rfl (fun K' hK' => ?_)
          simp only [fullA, chA, dst21, ci21, val21, Act.put, List.setIfInBounds_toArray, List.set_cons_zero, List.set_cons_succ] at hK ⊢
          generalize pvO o1 undef = x1 at hK ⊢
          generalize pvO o2 undef = x2 at hK ⊢
          generalize pvO o3 undef = x3 at hK ⊢
          have HKK := Lib.hid hK'
          have HK0 := Lib.hid hK
          clear hK' hK
          go_simp
          go_at_call 14
          refine (HAT.out _ hb.below (RN.left) HRL.out).mono ?_
          rintro e wA ⟨rfl, hbA⟩
          rw [HQNN.out]
          unfold ndRow
          try go_wp2_with fail
          exact HKK.out _ _ (HK0.out _ hbA)
        · intro o1 o2 o3 w' K hb hK
          refine wpOp_step (o := _) rfl (fun K' hK' => ?_)
          simp only [fullA, chA, dst21, ci21, val21, Act.put, List.setIfInBounds_toArray, List.set_cons_zero, List.set_cons_succ] at hK ⊢
          generalize pvO o1 undef = x1 at hK ⊢
          generalize pvO o2 undef = x2 at hK ⊢
          generalize pvO o3 undef = x3 at hK ⊢
          have HKK := Lib.hid hK'
          have HK0 := Lib.hid hK
          clear hK' hK
          go_simp
          go_at_call 14
          refine (HAT.out _ hb.below (XN.right) HXR.out).mono ?_
          rintro e wA ⟨rfl, hbA⟩
          rw [HRNN.out]
          unfold ndRow
          try go_wp2_with fail
          exact HKK.out _ _ (HK0.out _ hbA)
      · intro a w' K hK
        refine wpOp_step (o := _) rfl (fun K' hK' => ?_)
        go_simp
        exact hK' _ _ hK
      · intro a w' K hK
        refine wpOp_step (o := _) rfl (fun K' hK' => ?_)
        go_simp
        exact hK' _ _ hK
      · intro a w' K hK
        refine wpOp_step (o := _) rfl (fun K' hK' => ?_)
        go_simp
        exact hK' _ _ hK
      · intro g1 g2 g3 w' hb
        simp only [fullA, chA, dst21, ci21, val21, pvO, Act.put, List.setIfInBounds_toArray, List.set_cons_zero, List.set_cons_succ]
        obtain ⟨⟨⟨⟨a0, a1, a2, a3, a4, a5, a6, a7⟩, ⟨f0, f1, f2, f3, f4, f5, f6, f7⟩⟩, _, _, _, _, _, _, s1, s2⟩, t1, t2⟩ := hb.b3 HQL.out
        obtain ⟨⟨⟨⟨b0, b1, b2, b3, b4, b5, b6, b7⟩, ⟨e0, e1, e2, e3, e4, e5, e6, e7⟩⟩, _, _, _, _, _, _, s3, s4⟩, t3, t4⟩ := hb.b2 HQL.out
        obtain ⟨⟨⟨c0, c1, c2, c3, c4, c5, c6, c7⟩, ⟨k0, k1, k2, k3, k4, k5, k6, k7⟩⟩, _, _, _, _, _, _, s5, s6⟩ := hb.b1 HQL.out
        obtain ⟨t5, t6⟩ := (hb.less (List.sublist_cons_self _ _)).apart2
        have hg1 : w11.heap.size ≤ g1 := (hb.at_ (g1, Nd.zero) (by simp)).1
        have hg2 : w11.heap.size ≤ g2 := (hb.at_ (g2, Nd.zero) (by simp)).1
        have hg3 : w11.heap.size ≤ g3 := (hb.at_ (g3, Nd.zero) (by simp)).1
        have hbw := hb.below
        refine wpAnyH_ready (rs := [15]) (by kernel_rfl) (by simp) ?_
        refine AllReadyH.cons (o := _) rfl (fun K hK => ?_) AllReadyH.nil
        go_simp
        try go_wp2_with fail
        refine hK.out _ _ (by refine HKS.out _ ?_; repeat (first | with_reducible assumption | with_reducible exact BX.below (by with_reducible assumption) | with_reducible exact Below.refl _ _ | with_reducible refine Below.drew ?_ | refine Below.setCell ?_ (by (first | with_reducible assumption | exact Nat.le_refl _)) _)) (fun hHeld => ?_)
        clear hK K
        (try simp only [Act.put, List.setIfInBounds_toArray, List.set_cons_zero, List.set_cons_succ])
        refine wpAnyH_ready (rs := [16]) (by kernel_rfl) (by simp) ?_
        refine AllReadyH.cons (o := _) rfl (fun K hK => ?_) AllReadyH.nil
        go_simp
        try go_wp2_with fail
        refine hK.out _ _ (by refine HKS.out _ ?_; repeat (first | with_reducible assumption | with_reducible exact BX.below (by with_reducible assumption) | with_reducible exact Below.refl _ _ | with_reducible refine Below.drew ?_ | refine Below.setCell ?_ (by (first | with_reducible assumption | exact Nat.le_refl _)) _)) (fun hHeld => ?_)
        clear hK K
        (try simp only [Act.put, List.setIfInBounds_toArray, List.set_cons_zero, List.set_cons_succ])
        refine wpAnyH_ready (rs := [17]) (by kernel_rfl) (by simp) ?_
        refine AllReadyH.cons (o := _) rfl (fun K hK => ?_) AllReadyH.nil
        go_simp
        try go_wp2_with fail
        refine hK.out _ _ (by refine HKS.out _ ?_; repeat (first | with_reducible assumption | with_reducible exact BX.below (by with_reducible assumption) | with_reducible exact Below.refl _ _ | with_reducible refine Below.drew ?_ | refine Below.setCell ?_ (by (first | with_reducible assumption | exact Nat.le_refl _)) _)) (fun hHeld => ?_)
        clear hK K
        (try simp only [Act.put, List.setIfInBounds_toArray, List.set_cons_zero, List.set_cons_succ])
        refine wpAnyH_done (by kernel_rfl) ?_ _
        refine NoPanic.normal ?_
        go_wp2_with fail
        go_meet
        refine ⟨_, _, _, rfl, rfl, rfl, ?_⟩
        exact bz_123_ hb
    case' rest =>
      rename World => w12
      obtain ⟨gp, gq, gr, rfl, rfl, rfl, hbx⟩ := hcut
      have hs12 : Scn I w.heap.size w w12 (.pointer (some pa)) A4 rd4 rs [(gr, Obj.cells #[Value.int .i64 RN.key, .int .i64 RN.val, .int .u32 (RN.left : Int), .int .u32 (RN.right : Int), .int .i64 RN.size, .int .i64 RN.sum, .int .i64 RN.mn, .int .i64 RN.mx] 40 (0, 0)), (gq, Obj.cells #[Value.int .i64 QN.key, .int .i64 QN.val, .int .u32 (QN.left : Int), .int .u32 (QN.right : Int), .int .i64 QN.size, .int .i64 QN.sum, .int .i64 QN.mn, .int .i64 QN.mx] 40 (0, 0)), (gp, Obj.cells #[Value.int .i64 XN.key, .int .i64 XN.val, .int .u32 (XN.left : Int), .int .u32 (XN.right : Int), .int .i64 XN.size, .int .i64 XN.sum, .int .i64 XN.mn, .int .i64 XN.mx] 40 (0, 0)), (gx, Obj.cells #[Value.int .i64 XN.key, .int .i64 XN.val, .int .u32 (XN.left : Int), .int .u32 (XN.right : Int), .int .i64 XN.size, .int .i64 XN.sum, .int .i64 XN.mn, .int .i64 XN.mx] 40 (0, 0)), (qn, Obj.cells #[.slice na N nc, .slice nb M4 nd] 32 (0, 0)), (qd, Obj.cells #[.slice da N dc, .slice db M dd] 32 (0, 0))] := HS11.out.addBX hbx
      have HS12 := Lib.hid hs12
      clear hs12 hbx HS11 HAT HXX HKS HAL HQL HGX hfl d0 d1 x0 x1 x2 x3 x4 x5 x6 x7
      go_upto_region 22 with fail
      obtain ⟨⟨x0, x1, x2, x3, x4, x5, x6, x7⟩, -⟩ := row8_of (X := XN) (HS12.out.boxes (gx, Obj.cells #[Value.int .i64 XN.key, .int .i64 XN.val, .int .u32 (XN.left : Int), .int .u32 (XN.right : Int), .int .i64 XN.size, .int .i64 XN.sum, .int .i64 XN.mn, .int .i64 XN.mx] 40 (0, 0)) (by simp)).2
      obtain ⟨⟨r0, r1, r2, r3, r4, r5, r6, r7⟩, -⟩ := row8_of (X := RN) (HS12.out.boxes (gr, Obj.cells #[Value.int .i64 RN.key, .int .i64 RN.val, .int .u32 (RN.left : Int), .int .u32 (RN.right : Int), .int .i64 RN.size, .int .i64 RN.sum, .int .i64 RN.mn, .int .i64 RN.mx] 40 (0, 0)) (by simp)).2
      go_quiet (fail)
      rename Nat => q22
      have HS13 : Hid (Scn I w.heap.size w (w12.drewN q22) (.pointer (some pa)) A4 rd4 rs [(gr, Obj.cells #[Value.int .i64 RN.key, .int .i64 RN.val, .int .u32 (RN.left : Int), .int .u32 (RN.right : Int), .int .i64 RN.size, .int .i64 RN.sum, .int .i64 RN.mn, .int .i64 RN.mx] 40 (0, 0)), (gq, Obj.cells #[Value.int .i64 QN.key, .int .i64 QN.val, .int .u32 (QN.left : Int), .int .u32 (QN.right : Int), .int .i64 QN.size, .int .i64 QN.sum, .int .i64 QN.mn, .int .i64 QN.mx] 40 (0, 0)), (gp, Obj.cells #[Value.int .i64 XN.key, .int .i64 XN.val, .int .u32 (XN.left : Int), .int .u32 (XN.right : Int), .int .i64 XN.size, .int .i64 XN.sum, .int .i64 XN.mn, .int .i64 XN.mx] 40 (0, 0)), (gx, Obj.cells #[Value.int .i64 XN.key, .int .i64 XN.val, .int .u32 (XN.left : Int), .int .u32 (XN.right : Int), .int .i64 XN.size, .int .i64 XN.sum, .int .i64 XN.mn, .int .i64 XN.mx] 40 (0, 0)), (qn, Obj.cells #[.slice na N nc, .slice nb M4 nd] 32 (0, 0)), (qd, Obj.cells #[.slice da N dc, .slice db M dd] 32 (0, 0))]) := HS12.out.calm (below_drewN (Below.refl _ _) q22)
      generalize w12.drewN q22 = w13 at HS13 ⊢
      clear HS12 x0 x1 x2 x3 x4 x5 x6 x7 r0 r1 r2 r3 r4 r5 r6 r7
      cases right
      · have hk0 : k = 2 := HKR.out
        subst hk0
        have HD := Lib.hid (rdbl2 HINV.out HTU.out.inv HQ1.out HRN.out)
        rw [HXN.out, HRNN.out, HQNN.out] at HD
        skip
        obtain ⟨r1, r2, r3, r4, r5, r6, r7⟩ := HD.out
        have HR1 := Lib.hid r1
        have HR2 := Lib.hid r2
        have HR3 := Lib.hid r3
        have HR4 := Lib.hid r4
        have HR5 := Lib.hid r5
        have HR6 := Lib.hid r6
        have HR7 := Lib.hid r7
        clear r1 r2 r3 r4 r5 r6 r7 HD
        obtain ⟨n0, n1⟩ := two_cells (HS13.out.boxes (qn, Obj.cells #[.slice na N nc, .slice nb M4 nd] 32 (0, 0)) (by simp)).2
        go_wp2_with fail
        refine (at12_any (a := na) (b := nb) (N := N) (c := nc) (m := M4) (d := nd) (i := j) (HRN4.out HS13.out) HTU.out.inv.ok HN4.out HR7.out).mono ?_
        rintro e w14 ⟨rfl, hb14⟩
        obtain ⟨YN, hYN⟩ : ∃ x, A4.nz j = x := ⟨_, rfl⟩
        rw [hYN]
        have HYN := Lib.hid hYN
        unfold ndRow
        have hs14 := (HS13.out.calm hb14).box #[Value.int .i64 YN.key, .int .i64 YN.val, .int .u32 (YN.left : Int), .int .u32 (YN.right : Int), .int .i64 YN.size, .int .i64 YN.sum, .int .i64 YN.mn, .int .i64 YN.mx] 40
        clear hb14 HS13 hYN n0 n1
        go_upto_region 28 with fail
        generalize w14.alloc (Obj.cells #[Value.int .i64 YN.key, .int .i64 YN.val, .int .u32 (YN.left : Int), .int .u32 (YN.right : Int), .int .i64 YN.size, .int .i64 YN.sum, .int .i64 YN.mn, .int .i64 YN.mx] 40) = w15 at hs14 ⊢
        generalize w14.heap.size = gy at hs14 ⊢
        have HS15 := Lib.hid hs14
        clear hs14
        rw [HYN.out] at HR1 HR2 HR3 HR5 HR6
        have HYK : Hid (YN.left < 4294967296 ∧ YN.right < 4294967296) := by have h := nz_kids HTU.out.inv j; rw [HYN.out] at h; exact h
        obtain ⟨ZA, hZA⟩ : ∃ x, A4.nz YN.left = x := ⟨_, rfl⟩
        rw [hZA] at HR2
        have HZA := Lib.hid hZA
        obtain ⟨ZB, hZB⟩ : ∃ x, A4.nz YN.right = x := ⟨_, rfl⟩
        rw [hZB] at HR3
        have HZB := Lib.hid hZB
        clear hZA hZB
        have hsd : Scn I w.heap.size w w15.drew (.pointer (some pa)) A4 rd4 rs [(gy, Obj.cells #[Value.int .i64 YN.key, .int .i64 YN.val, .int .u32 (YN.left : Int), .int .u32 (YN.right : Int), .int .i64 YN.size, .int .i64 YN.sum, .int .i64 YN.mn, .int .i64 YN.mx] 40 (0, 0)), (gr, Obj.cells #[Value.int .i64 RN.key, .int .i64 RN.val, .int .u32 (RN.left : Int), .int .u32 (RN.right : Int), .int .i64 RN.size, .int .i64 RN.sum, .int .i64 RN.mn, .int .i64 RN.mx] 40 (0, 0)), (gq, Obj.cells #[Value.int .i64 QN.key, .int .i64 QN.val, .int .u32 (QN.left : Int), .int .u32 (QN.right : Int), .int .i64 QN.size, .int .i64 QN.sum, .int .i64 QN.mn, .int .i64 QN.mx] 40 (0, 0)), (gp, Obj.cells #[Value.int .i64 XN.key, .int .i64 XN.val, .int .u32 (XN.left : Int), .int .u32 (XN.right : Int), .int .i64 XN.size, .int .i64 XN.sum, .int .i64 XN.mn, .int .i64 XN.mx] 40 (0, 0)), (gx, Obj.cells #[Value.int .i64 XN.key, .int .i64 XN.val, .int .u32 (XN.left : Int), .int .u32 (XN.right : Int), .int .i64 XN.size, .int .i64 XN.sum, .int .i64 XN.mn, .int .i64 XN.mx] 40 (0, 0)), (qn, Obj.cells #[.slice na N nc, .slice nb M4 nd] 32 (0, 0)), (qd, Obj.cells #[.slice da N dc, .slice db M dd] 32 (0, 0))] := HS15.out.calm (Below.refl _ _).drew
        clear HS15
        obtain ⟨⟨y0, y1, y2, y3, y4, y5, y6, y7⟩, -⟩ := row8_of (X := YN) (hsd.boxes (gy, Obj.cells #[Value.int .i64 YN.key, .int .i64 YN.val, .int .u32 (YN.left : Int), .int .u32 (YN.right : Int), .int .i64 YN.size, .int .i64 YN.sum, .int .i64 YN.mn, .int .i64 YN.mx] 40 (0, 0)) (by simp)).2
        obtain ⟨⟨q0, q1, q2, q3, q4, q5, q6, q7⟩, -⟩ := row8_of (X := QN) (hsd.boxes (gq, Obj.cells #[Value.int .i64 QN.key, .int .i64 QN.val, .int .u32 (QN.left : Int), .int .u32 (QN.right : Int), .int .i64 QN.size, .int .i64 QN.sum, .int .i64 QN.mn, .int .i64 QN.mx] 40 (0, 0)) (by simp)).2
        obtain ⟨⟨p0, p1, p2, p3, p4, p5, p6, p7⟩, -⟩ := row8_of (X := XN) (hsd.boxes (gp, Obj.cells #[Value.int .i64 XN.key, .int .i64 XN.val, .int .u32 (XN.left : Int), .int .u32 (XN.right : Int), .int .i64 XN.size, .int .i64 XN.sum, .int .i64 XN.mn, .int .i64 XN.mx] 40 (0, 0)) (by simp)).2
        obtain ⟨⟨r0, r1, r2, r3, r4, r5, r6, r7⟩, -⟩ := row8_of (X := RN) (hsd.boxes (gr, Obj.cells #[Value.int .i64 RN.key, .int .i64 RN.val, .int .u32 (RN.left : Int), .int .u32 (RN.right : Int), .int .i64 RN.size, .int .i64 RN.sum, .int .i64 RN.mn, .int .i64 RN.mx] 40 (0, 0)) (by simp)).2
        obtain ⟨n0, n1⟩ := two_cells (hsd.boxes (qn, Obj.cells #[.slice na N nc, .slice nb M4 nd] 32 (0, 0)) (by simp)).2
        go_region_held3 (fun w' => w'.cell? ⟨gy, 0, none⟩ = some (.int .i64 YN.key) ∧ w'.cell? ⟨gy, 1, none⟩ = some (.int .i64 YN.val) ∧ w'.cell? ⟨gy, 2, none⟩ = some (.int .u32 (YN.left : Int)) ∧ w'.cell? ⟨gy, 3, none⟩ = some (.int .u32 (YN.right : Int)) ∧ w'.cell? ⟨gy, 4, none⟩ = some (.int .i64 YN.size) ∧ w'.cell? ⟨gy, 5, none⟩ = some (.int .i64 YN.sum) ∧ w'.cell? ⟨gy, 6, none⟩ = some (.int .i64 YN.mn) ∧ w'.cell? ⟨gy, 7, none⟩ = some (.int .i64 YN.mx) ∧ w'.cell? ⟨gq, 0, none⟩ = some (.int .i64 QN.key) ∧ w'.cell? ⟨gq, 1, none⟩ = some (.int .i64 QN.val) ∧ w'.cell? ⟨gq, 2, none⟩ = some (.int .u32 (QN.left : Int)) ∧ w'.cell? ⟨gq, 3, none⟩ = some (.int .u32 (QN.right : Int)) ∧ w'.cell? ⟨gq, 4, none⟩ = some (.int .i64 QN.size) ∧ w'.cell? ⟨gq, 5, none⟩ = some (.int .i64 QN.sum) ∧ w'.cell? ⟨gq, 6, none⟩ = some (.int .i64 QN.mn) ∧ w'.cell? ⟨gq, 7, none⟩ = some (.int .i64 QN.mx) ∧ w'.cell? ⟨gp, 0, none⟩ = some (.int .i64 XN.key) ∧ w'.cell? ⟨gp, 1, none⟩ = some (.int .i64 XN.val) ∧ w'.cell? ⟨gp, 2, none⟩ = some (.int .u32 (XN.left : Int)) ∧ w'.cell? ⟨gp, 3, none⟩ = some (.int .u32 (XN.right : Int)) ∧ w'.cell? ⟨gp, 4, none⟩ = some (.int .i64 XN.size) ∧ w'.cell? ⟨gp, 5, none⟩ = some (.int .i64 XN.sum) ∧ w'.cell? ⟨gp, 6, none⟩ = some (.int .i64 XN.mn) ∧ w'.cell? ⟨gp, 7, none⟩ = some (.int .i64 XN.mx) ∧ w'.cell? ⟨gr, 0, none⟩ = some (.int .i64 RN.key) ∧ w'.cell? ⟨gr, 1, none⟩ = some (.int .i64 RN.val) ∧ w'.cell? ⟨gr, 2, none⟩ = some (.int .u32 (RN.left : Int)) ∧ w'.cell? ⟨gr, 3, none⟩ = some (.int .u32 (RN.right : Int)) ∧ w'.cell? ⟨gr, 4, none⟩ = some (.int .i64 RN.size) ∧ w'.cell? ⟨gr, 5, none⟩ = some (.int .i64 RN.sum) ∧ w'.cell? ⟨gr, 6, none⟩ = some (.int .i64 RN.mn) ∧ w'.cell? ⟨gr, 7, none⟩ = some (.int .i64 RN.mx) ∧ w'.cell? ⟨qn, 0, none⟩ = some (.slice na N nc) ∧ w'.cell? ⟨qn, 1, none⟩ = some (.slice nb M4 nd)) (go_keep) (first
          | (go_at_call_of 15 (Value.agg #[Value.int .i64 YN.key, .int .i64 YN.val, .int .u32 (YN.left : Int), .int .u32 (YN.right : Int), .int .i64 YN.size, .int .i64 YN.sum, .int .i64 YN.mn, .int .i64 YN.mx]); refine (is12_any YN QN YN.left YN.right _).mono ?_; rintro e wt ⟨rfl, hbt⟩; rw [HR1.out]; have hT := Scn.calm (by assumption) hbt; clear hbt; obtain ⟨⟨y0, y1, y2, y3, y4, y5, y6, y7⟩, -⟩ := row8_of (X := YN) (hT.boxes (gy, Obj.cells #[Value.int .i64 YN.key, .int .i64 YN.val, .int .u32 (YN.left : Int), .int .u32 (YN.right : Int), .int .i64 YN.size, .int .i64 YN.sum, .int .i64 YN.mn, .int .i64 YN.mx] 40 (0, 0)) (by simp)).2; obtain ⟨⟨q0, q1, q2, q3, q4, q5, q6, q7⟩, -⟩ := row8_of (X := QN) (hT.boxes (gq, Obj.cells #[Value.int .i64 QN.key, .int .i64 QN.val, .int .u32 (QN.left : Int), .int .u32 (QN.right : Int), .int .i64 QN.size, .int .i64 QN.sum, .int .i64 QN.mn, .int .i64 QN.mx] 40 (0, 0)) (by simp)).2; obtain ⟨⟨p0, p1, p2, p3, p4, p5, p6, p7⟩, -⟩ := row8_of (X := XN) (hT.boxes (gp, Obj.cells #[Value.int .i64 XN.key, .int .i64 XN.val, .int .u32 (XN.left : Int), .int .u32 (XN.right : Int), .int .i64 XN.size, .int .i64 XN.sum, .int .i64 XN.mn, .int .i64 XN.mx] 40 (0, 0)) (by simp)).2; obtain ⟨⟨r0, r1, r2, r3, r4, r5, r6, r7⟩, -⟩ := row8_of (X := RN) (hT.boxes (gr, Obj.cells #[Value.int .i64 RN.key, .int .i64 RN.val, .int .u32 (RN.left : Int), .int .u32 (RN.right : Int), .int .i64 RN.size, .int .i64 RN.sum, .int .i64 RN.mn, .int .i64 RN.mx] 40 (0, 0)) (by simp)).2; obtain ⟨n0, n1⟩ := two_cells (hT.boxes (qn, Obj.cells #[.slice na N nc, .slice nb M4 nd] 32 (0, 0)) (by simp)).2)
          | (go_at_call_of 14 (Value.int .u32 (YN.left : Int)); refine (at12_any (a := na) (b := nb) (N := N) (c := nc) (m := M4) (d := nd) (i := YN.left) (HRN4.out (by assumption)) HTU.out.inv.ok HN4.out HYK.out.1).mono ?_; rintro e wt ⟨rfl, hbt⟩; rw [HZA.out]; unfold ndRow; have hT := Scn.calm (by assumption) hbt; clear hbt; obtain ⟨⟨y0, y1, y2, y3, y4, y5, y6, y7⟩, -⟩ := row8_of (X := YN) (hT.boxes (gy, Obj.cells #[Value.int .i64 YN.key, .int .i64 YN.val, .int .u32 (YN.left : Int), .int .u32 (YN.right : Int), .int .i64 YN.size, .int .i64 YN.sum, .int .i64 YN.mn, .int .i64 YN.mx] 40 (0, 0)) (by simp)).2; obtain ⟨⟨q0, q1, q2, q3, q4, q5, q6, q7⟩, -⟩ := row8_of (X := QN) (hT.boxes (gq, Obj.cells #[Value.int .i64 QN.key, .int .i64 QN.val, .int .u32 (QN.left : Int), .int .u32 (QN.right : Int), .int .i64 QN.size, .int .i64 QN.sum, .int .i64 QN.mn, .int .i64 QN.mx] 40 (0, 0)) (by simp)).2; obtain ⟨⟨p0, p1, p2, p3, p4, p5, p6, p7⟩, -⟩ := row8_of (X := XN) (hT.boxes (gp, Obj.cells #[Value.int .i64 XN.key, .int .i64 XN.val, .int .u32 (XN.left : Int), .int .u32 (XN.right : Int), .int .i64 XN.size, .int .i64 XN.sum, .int .i64 XN.mn, .int .i64 XN.mx] 40 (0, 0)) (by simp)).2; obtain ⟨⟨r0, r1, r2, r3, r4, r5, r6, r7⟩, -⟩ := row8_of (X := RN) (hT.boxes (gr, Obj.cells #[Value.int .i64 RN.key, .int .i64 RN.val, .int .u32 (RN.left : Int), .int .u32 (RN.right : Int), .int .i64 RN.size, .int .i64 RN.sum, .int .i64 RN.mn, .int .i64 RN.mx] 40 (0, 0)) (by simp)).2; obtain ⟨n0, n1⟩ := two_cells (hT.boxes (qn, Obj.cells #[.slice na N nc, .slice nb M4 nd] 32 (0, 0)) (by simp)).2)
          | (go_at_call_of 15 (Value.agg #[Value.int .i64 XN.key, .int .i64 XN.val, .int .u32 (XN.left : Int), .int .u32 (XN.right : Int), .int .i64 XN.size, .int .i64 XN.sum, .int .i64 XN.mn, .int .i64 XN.mx]); refine (is12_any ZA XN XN.left QN.left _).mono ?_; rintro e wt ⟨rfl, hbt⟩; rw [HR2.out]; have hT := Scn.calm (by assumption) hbt; clear hbt; obtain ⟨⟨y0, y1, y2, y3, y4, y5, y6, y7⟩, -⟩ := row8_of (X := YN) (hT.boxes (gy, Obj.cells #[Value.int .i64 YN.key, .int .i64 YN.val, .int .u32 (YN.left : Int), .int .u32 (YN.right : Int), .int .i64 YN.size, .int .i64 YN.sum, .int .i64 YN.mn, .int .i64 YN.mx] 40 (0, 0)) (by simp)).2; obtain ⟨⟨q0, q1, q2, q3, q4, q5, q6, q7⟩, -⟩ := row8_of (X := QN) (hT.boxes (gq, Obj.cells #[Value.int .i64 QN.key, .int .i64 QN.val, .int .u32 (QN.left : Int), .int .u32 (QN.right : Int), .int .i64 QN.size, .int .i64 QN.sum, .int .i64 QN.mn, .int .i64 QN.mx] 40 (0, 0)) (by simp)).2; obtain ⟨⟨p0, p1, p2, p3, p4, p5, p6, p7⟩, -⟩ := row8_of (X := XN) (hT.boxes (gp, Obj.cells #[Value.int .i64 XN.key, .int .i64 XN.val, .int .u32 (XN.left : Int), .int .u32 (XN.right : Int), .int .i64 XN.size, .int .i64 XN.sum, .int .i64 XN.mn, .int .i64 XN.mx] 40 (0, 0)) (by simp)).2; obtain ⟨⟨r0, r1, r2, r3, r4, r5, r6, r7⟩, -⟩ := row8_of (X := RN) (hT.boxes (gr, Obj.cells #[Value.int .i64 RN.key, .int .i64 RN.val, .int .u32 (RN.left : Int), .int .u32 (RN.right : Int), .int .i64 RN.size, .int .i64 RN.sum, .int .i64 RN.mn, .int .i64 RN.mx] 40 (0, 0)) (by simp)).2; obtain ⟨n0, n1⟩ := two_cells (hT.boxes (qn, Obj.cells #[.slice na N nc, .slice nb M4 nd] 32 (0, 0)) (by simp)).2)
          | (go_at_call_of 14 (Value.int .u32 (YN.right : Int)); refine (at12_any (a := na) (b := nb) (N := N) (c := nc) (m := M4) (d := nd) (i := YN.right) (HRN4.out (by assumption)) HTU.out.inv.ok HN4.out HYK.out.2).mono ?_; rintro e wt ⟨rfl, hbt⟩; rw [HZB.out]; unfold ndRow; have hT := Scn.calm (by assumption) hbt; clear hbt; obtain ⟨⟨y0, y1, y2, y3, y4, y5, y6, y7⟩, -⟩ := row8_of (X := YN) (hT.boxes (gy, Obj.cells #[Value.int .i64 YN.key, .int .i64 YN.val, .int .u32 (YN.left : Int), .int .u32 (YN.right : Int), .int .i64 YN.size, .int .i64 YN.sum, .int .i64 YN.mn, .int .i64 YN.mx] 40 (0, 0)) (by simp)).2; obtain ⟨⟨q0, q1, q2, q3, q4, q5, q6, q7⟩, -⟩ := row8_of (X := QN) (hT.boxes (gq, Obj.cells #[Value.int .i64 QN.key, .int .i64 QN.val, .int .u32 (QN.left : Int), .int .u32 (QN.right : Int), .int .i64 QN.size, .int .i64 QN.sum, .int .i64 QN.mn, .int .i64 QN.mx] 40 (0, 0)) (by simp)).2; obtain ⟨⟨p0, p1, p2, p3, p4, p5, p6, p7⟩, -⟩ := row8_of (X := XN) (hT.boxes (gp, Obj.cells #[Value.int .i64 XN.key, .int .i64 XN.val, .int .u32 (XN.left : Int), .int .u32 (XN.right : Int), .int .i64 XN.size, .int .i64 XN.sum, .int .i64 XN.mn, .int .i64 XN.mx] 40 (0, 0)) (by simp)).2; obtain ⟨⟨r0, r1, r2, r3, r4, r5, r6, r7⟩, -⟩ := row8_of (X := RN) (hT.boxes (gr, Obj.cells #[Value.int .i64 RN.key, .int .i64 RN.val, .int .u32 (RN.left : Int), .int .u32 (RN.right : Int), .int .i64 RN.size, .int .i64 RN.sum, .int .i64 RN.mn, .int .i64 RN.mx] 40 (0, 0)) (by simp)).2; obtain ⟨n0, n1⟩ := two_cells (hT.boxes (qn, Obj.cells #[.slice na N nc, .slice nb M4 nd] 32 (0, 0)) (by simp)).2)
          | (go_at_call_of 15 (Value.agg #[Value.int .i64 RN.key, .int .i64 RN.val, .int .u32 (RN.left : Int), .int .u32 (RN.right : Int), .int .i64 RN.size, .int .i64 RN.sum, .int .i64 RN.mn, .int .i64 RN.mx]); refine (is12_any ZB RN QN.right RN.right _).mono ?_; rintro e wt ⟨rfl, hbt⟩; rw [HR3.out]; have hT := Scn.calm (by assumption) hbt; clear hbt; obtain ⟨⟨y0, y1, y2, y3, y4, y5, y6, y7⟩, -⟩ := row8_of (X := YN) (hT.boxes (gy, Obj.cells #[Value.int .i64 YN.key, .int .i64 YN.val, .int .u32 (YN.left : Int), .int .u32 (YN.right : Int), .int .i64 YN.size, .int .i64 YN.sum, .int .i64 YN.mn, .int .i64 YN.mx] 40 (0, 0)) (by simp)).2; obtain ⟨⟨q0, q1, q2, q3, q4, q5, q6, q7⟩, -⟩ := row8_of (X := QN) (hT.boxes (gq, Obj.cells #[Value.int .i64 QN.key, .int .i64 QN.val, .int .u32 (QN.left : Int), .int .u32 (QN.right : Int), .int .i64 QN.size, .int .i64 QN.sum, .int .i64 QN.mn, .int .i64 QN.mx] 40 (0, 0)) (by simp)).2; obtain ⟨⟨p0, p1, p2, p3, p4, p5, p6, p7⟩, -⟩ := row8_of (X := XN) (hT.boxes (gp, Obj.cells #[Value.int .i64 XN.key, .int .i64 XN.val, .int .u32 (XN.left : Int), .int .u32 (XN.right : Int), .int .i64 XN.size, .int .i64 XN.sum, .int .i64 XN.mn, .int .i64 XN.mx] 40 (0, 0)) (by simp)).2; obtain ⟨⟨r0, r1, r2, r3, r4, r5, r6, r7⟩, -⟩ := row8_of (X := RN) (hT.boxes (gr, Obj.cells #[Value.int .i64 RN.key, .int .i64 RN.val, .int .u32 (RN.left : Int), .int .u32 (RN.right : Int), .int .i64 RN.size, .int .i64 RN.sum, .int .i64 RN.mn, .int .i64 RN.mx] 40 (0, 0)) (by simp)).2; obtain ⟨n0, n1⟩ := two_cells (hT.boxes (qn, Obj.cells #[.slice na N nc, .slice nb M4 nd] 32 (0, 0)) (by simp)).2))
        have HS16 := Lib.hid hT
        clear hT hsd
        try clear y0 y1 y2 y3 y4 y5 y6 y7 q0 q1 q2 q3 q4 q5 q6 q7 p0 p1 p2 p3 p4 p5 p6 p7 r0 r1 r2 r3 r4 r5 r6 r7 n0 n1
        skip
        obtain ⟨d0, d1⟩ := two_cells (HS16.out.boxes (qd, Obj.cells #[.slice da N dc, .slice db M dd] 32 (0, 0)) (by simp)).2
        obtain ⟨n0, n1⟩ := two_cells (HS16.out.boxes (qn, Obj.cells #[.slice na N nc, .slice nb M4 nd] 32 (0, 0)) (by simp)).2
        obtain ⟨⟨y0, y1, y2, y3, y4, y5, y6, y7⟩, -⟩ := row8_of (X := YN) (HS16.out.boxes (gy, Obj.cells #[Value.int .i64 YN.key, .int .i64 YN.val, .int .u32 (YN.left : Int), .int .u32 (YN.right : Int), .int .i64 YN.size, .int .i64 YN.sum, .int .i64 YN.mn, .int .i64 YN.mx] 40 (0, 0)) (by simp)).2
        go_wp2_with fail
        refine (fresh12_any (a := da) (b := db) (N := N) (c := dc) (m := M) (d := dd) (a' := na) (b' := nb) (c' := nc) (m' := M4) (d' := nd) (i := j) (HRD.out HS16.out) HINV.out.ok HN.out (HRN4.out HS16.out) HTU.out.inv.ok HN4.out HR7.out).mono ?_
        rintro e w17 ⟨rfl, hb17⟩
        rw [HR4.out]
        have HS17 := Lib.hid (HS16.out.calm hb17)
        clear hb17 HS16 d0 d1 n0 n1 y0 y1 y2 y3 y4 y5 y6 y7
        obtain ⟨d0, d1⟩ := two_cells (HS17.out.boxes (qd, Obj.cells #[.slice da N dc, .slice db M dd] 32 (0, 0)) (by simp)).2
        obtain ⟨n0, n1⟩ := two_cells (HS17.out.boxes (qn, Obj.cells #[.slice na N nc, .slice nb M4 nd] 32 (0, 0)) (by simp)).2
        obtain ⟨⟨y0, y1, y2, y3, y4, y5, y6, y7⟩, -⟩ := row8_of (X := YN) (HS17.out.boxes (gy, Obj.cells #[Value.int .i64 YN.key, .int .i64 YN.val, .int .u32 (YN.left : Int), .int .u32 (YN.right : Int), .int .i64 YN.size, .int .i64 YN.sum, .int .i64 YN.mn, .int .i64 YN.mx] 40 (0, 0)) (by simp)).2
        go_wp2_with fail
        refine (fresh12_any (a := da) (b := db) (N := N) (c := dc) (m := M) (d := dd) (a' := na) (b' := nb) (c' := nc) (m' := M4) (d' := nd) (i := YN.left) (HRD.out HS17.out) HINV.out.ok HN.out (HRN4.out HS17.out) HTU.out.inv.ok HN4.out HYK.out.1).mono ?_
        rintro e w18 ⟨rfl, hb18⟩
        rw [HR5.out]
        have HS18 := Lib.hid (HS17.out.calm hb18)
        clear hb18 HS17 d0 d1 n0 n1 y0 y1 y2 y3 y4 y5 y6 y7
        obtain ⟨d0, d1⟩ := two_cells (HS18.out.boxes (qd, Obj.cells #[.slice da N dc, .slice db M dd] 32 (0, 0)) (by simp)).2
        obtain ⟨n0, n1⟩ := two_cells (HS18.out.boxes (qn, Obj.cells #[.slice na N nc, .slice nb M4 nd] 32 (0, 0)) (by simp)).2
        obtain ⟨⟨y0, y1, y2, y3, y4, y5, y6, y7⟩, -⟩ := row8_of (X := YN) (HS18.out.boxes (gy, Obj.cells #[Value.int .i64 YN.key, .int .i64 YN.val, .int .u32 (YN.left : Int), .int .u32 (YN.right : Int), .int .i64 YN.size, .int .i64 YN.sum, .int .i64 YN.mn, .int .i64 YN.mx] 40 (0, 0)) (by simp)).2
        go_wp2_with fail
        refine (fresh12_any (a := da) (b := db) (N := N) (c := dc) (m := M) (d := dd) (a' := na) (b' := nb) (c' := nc) (m' := M4) (d' := nd) (i := YN.right) (HRD.out HS18.out) HINV.out.ok HN.out (HRN4.out HS18.out) HTU.out.inv.ok HN4.out HYK.out.2).mono ?_
        rintro e w19 ⟨rfl, hb19⟩
        rw [HR6.out]
        have HS19 := Lib.hid (HS18.out.calm hb19)
        clear hb19 HS18 d0 d1 n0 n1 y0 y1 y2 y3 y4 y5 y6 y7
        obtain ⟨d0, d1⟩ := two_cells (HS19.out.boxes (qd, Obj.cells #[.slice da N dc, .slice db M dd] 32 (0, 0)) (by simp)).2
        obtain ⟨n0, n1⟩ := two_cells (HS19.out.boxes (qn, Obj.cells #[.slice na N nc, .slice nb M4 nd] 32 (0, 0)) (by simp)).2
        obtain ⟨⟨y0, y1, y2, y3, y4, y5, y6, y7⟩, -⟩ := row8_of (X := YN) (HS19.out.boxes (gy, Obj.cells #[Value.int .i64 YN.key, .int .i64 YN.val, .int .u32 (YN.left : Int), .int .u32 (YN.right : Int), .int .i64 YN.size, .int .i64 YN.sum, .int .i64 YN.mn, .int .i64 YN.mx] 40 (0, 0)) (by simp)).2
        go_wp2_with fail
        refine HS19.out.free.mono ?_
        rintro e w20 ⟨rfl, hs20⟩
        rw [HM5.out]
        have HS20 := Lib.hid hs20
        clear hs20 HS19 d0 d1 n0 n1 y0 y1 y2 y3 y4 y5 y6 y7
        have wf : IntKind.i64.wrap ((sp : Int) - 3) = (M4 : Int) := by rw [IntKind.wrap_i64]; have h1 := HM4.out; have h2 := HSP.out; omega
        obtain ⟨d0, d1⟩ := two_cells (HS20.out.boxes (qd, Obj.cells #[.slice da N dc, .slice db M dd] 32 (0, 0)) (by simp)).2
        obtain ⟨n0, n1⟩ := two_cells (HS20.out.boxes (qn, Obj.cells #[.slice na N nc, .slice nb M4 nd] 32 (0, 0)) (by simp)).2
        go_wp2_with fail
        refine (kept_any (a := da) (b := db) (n := N) (c := dc) (m := M) (d := dd) (a' := na) (b' := nb) (c' := nc) (m' := M4) (d' := nd) (HRD.out HS20.out) (HRN4.out HS20.out) (turned_keptD HTU.out) (by have h1 := HINV.out.ok.cap2; have h2 := HN.out; omega)).mono ?_
        rintro e w21 ⟨rfl, hb21⟩
        have hmr := (HMR.out (HS20.out.calm hb21)).calm (below_new7 w21 (Obj.cells #[Value.int .u32 (j : Int)] 28))
        have hrow := hmr.rows ⟨28, 1, .slice (some ⟨gm, 0, none⟩) L xc, L, u32s l⟩ (by simp)
        have hB := hmr.mr.hB
        have hnew := cell_new1 w21 (Value.int .u32 (j : Int)) 28
        have HMS := Lib.hid hmr
        have hLi41 : (L : Int) ≤ 41 := by have := HLL.out; omega
        clear hb21 HS20 hmr d0 d1 n0 n1
        go_wp2_with (at_builtin; refine wpList_append_g (by rfl) (.tmp 183) (.tmp 185) 24 rfl w.heap.size 28 i0 (.int .u32 0) 1 4 Try.underlying24 ji jz0 jz1 jz2 rfl (by decide) _ L (u32s l) rfl hrow ⟨w21.heap.size, 0, none⟩ 1 1 [.int .u32 (j : Int)] rfl rfl hnew (one_cell1 _ _) (by unfold maxLen; omega) (by omega) hB ?_; intro v6 wf6 ho6 hg6 hv6)
        obtain ⟨va, vc, rfl⟩ := row_val ho6
        have hsf := HMS.out.grew ho6 hg6 hv6
        have hlen : (l ++ [j]).length = L + 1 := by rw [List.length_append, HLL.out.1]; rfl
        have hj0 : j ≠ 0 := by intro h; subst h; have h1 := HR4.out; have h2 : A4.σ.on 0 = true := by simp only [Bool.and_eq_true] at h1; exact h1.1
                               have := HTU.out.inv.ok.on 0 h2; omega
        have hon : A4.σ.on j = true := by have h1 := HR4.out; simp only [Bool.and_eq_true] at h1; exact h1.1
        have hut : U32At wf6 va (l ++ [j]) := row_u32 (c := vc) (by rw [hlen, u32s_app]; exact ho6) (fun y hy => by
          rcases List.mem_append.1 hy with hy | hy
          · exact idx_lt4 HINV.out y hy
          · simp at hy; subst hy; exact HR7.out)
        have hiv : A4.Inv [] (hof (l ++ [j])) := by rw [hof_more l hj0]; exact HTU.out.inv
        refine (hsf.sound HCHK.out hiv HTU.out.agg hut (L := L + 1) hlen (by have := HLL.out; omega) (fun x hx => ?_)).mono ?_
        · rcases List.mem_append.1 hx with hx | hx
          · exact (held_idx HINV.out (.inr hx)).imp_right (HTU.out.kept.on x)
          · simp at hx; subst hx; exact .inr hon
        rintro e wz ⟨rfl, hbz⟩
        have HB := Lib.hid (hsf.calm hbz).below
        clear hbz hsf ho6 hg6 hv6 hut hiv hrow hB hnew
        go_wp2_with fail
        go_ret
        exact ⟨rfl, HB.out⟩
      · have hk0 : k = 3 := HKR.out
        subst hk0
        have HD := Lib.hid (rdbl3 HINV.out HTU.out.inv HQ1.out HRN.out)
        rw [HXN.out] at HD
        obtain ⟨PN, hPN⟩ : ∃ x, A.nz XN.left = x := ⟨_, rfl⟩
        rw [hPN] at HD
        have HPN := Lib.hid hPN
        obtain ⟨QM, hQM⟩ : ∃ x, A.nz PN.right = x := ⟨_, rfl⟩
        rw [hQM] at HD
        have HQM := Lib.hid hQM
        clear hPN hQM
        have HXL : Hid (XN.left < 4294967296) := by have h := (nz_kids HINV.out X).1; rw [HXN.out] at h; exact h
        have HPR : Hid (PN.right < 4294967296) := by have h := (nz_kids HINV.out XN.left).2; rw [HPN.out] at h; exact h
        go_upto_region 24 with fail
        go_cut [20] (fun s20 wx => s20 = .pointer (some ⟨gp, 0, none⟩) ∧ Scn I w.heap.size w wx (.pointer (some pa)) A4 rd4 rs [(gr, Obj.cells #[Value.int .i64 XN.key, .int .i64 XN.val, .int .u32 (XN.left : Int), .int .u32 (XN.right : Int), .int .i64 XN.size, .int .i64 XN.sum, .int .i64 XN.mn, .int .i64 XN.mx] 40 (0, 0)), (gp, Obj.cells #[Value.int .i64 PN.key, .int .i64 PN.val, .int .u32 (PN.left : Int), .int .u32 (PN.right : Int), .int .i64 PN.size, .int .i64 PN.sum, .int .i64 PN.mn, .int .i64 PN.mx] 40 (0, 0)), (gq, Obj.cells #[Value.int .i64 QN.key, .int .i64 QN.val, .int .u32 (QN.left : Int), .int .u32 (QN.right : Int), .int .i64 QN.size, .int .i64 QN.sum, .int .i64 QN.mn, .int .i64 QN.mx] 40 (0, 0)), (gx, Obj.cells #[Value.int .i64 XN.key, .int .i64 XN.val, .int .u32 (XN.left : Int), .int .u32 (XN.right : Int), .int .i64 XN.size, .int .i64 XN.sum, .int .i64 XN.mn, .int .i64 XN.mx] 40 (0, 0)), (qn, Obj.cells #[.slice na N nc, .slice nb M4 nd] 32 (0, 0)), (qd, Obj.cells #[.slice da N dc, .slice db M dd] 32 (0, 0))])
        case first =>
          have hsd : Scn I w.heap.size w w13.drew (.pointer (some pa)) A4 rd4 rs [(gr, Obj.cells #[Value.int .i64 RN.key, .int .i64 RN.val, .int .u32 (RN.left : Int), .int .u32 (RN.right : Int), .int .i64 RN.size, .int .i64 RN.sum, .int .i64 RN.mn, .int .i64 RN.mx] 40 (0, 0)), (gq, Obj.cells #[Value.int .i64 QN.key, .int .i64 QN.val, .int .u32 (QN.left : Int), .int .u32 (QN.right : Int), .int .i64 QN.size, .int .i64 QN.sum, .int .i64 QN.mn, .int .i64 QN.mx] 40 (0, 0)), (gp, Obj.cells #[Value.int .i64 XN.key, .int .i64 XN.val, .int .u32 (XN.left : Int), .int .u32 (XN.right : Int), .int .i64 XN.size, .int .i64 XN.sum, .int .i64 XN.mn, .int .i64 XN.mx] 40 (0, 0)), (gx, Obj.cells #[Value.int .i64 XN.key, .int .i64 XN.val, .int .u32 (XN.left : Int), .int .u32 (XN.right : Int), .int .i64 XN.size, .int .i64 XN.sum, .int .i64 XN.mn, .int .i64 XN.mx] 40 (0, 0)), (qn, Obj.cells #[.slice na N nc, .slice nb M4 nd] 32 (0, 0)), (qd, Obj.cells #[.slice da N dc, .slice db M dd] 32 (0, 0))] := HS13.out.calm (Below.refl _ _).drew
          have hap : (¬ gr = gp ∧ ¬ gp = gr) ∧ (¬ gr = gx ∧ ¬ gx = gr) ∧ (¬ gr = qd ∧ ¬ qd = gr) ∧ (¬ gp = gx ∧ ¬ gx = gp) ∧ (¬ gp = qd ∧ ¬ qd = gp) := by
            have h2 := hsd.swap2.swap
            exact ⟨hsd.apart (y := (gp, Obj.cells #[Value.int .i64 XN.key, .int .i64 XN.val, .int .u32 (XN.left : Int), .int .u32 (XN.right : Int), .int .i64 XN.size, .int .i64 XN.sum, .int .i64 XN.mn, .int .i64 XN.mx] 40 (0, 0))) (by simp), hsd.apart (y := (gx, Obj.cells #[Value.int .i64 XN.key, .int .i64 XN.val, .int .u32 (XN.left : Int), .int .u32 (XN.right : Int), .int .i64 XN.size, .int .i64 XN.sum, .int .i64 XN.mn, .int .i64 XN.mx] 40 (0, 0))) (by simp), hsd.apart (y := (qd, Obj.cells #[.slice da N dc, .slice db M dd] 32 (0, 0))) (by simp), h2.apart (y := (gx, Obj.cells #[Value.int .i64 XN.key, .int .i64 XN.val, .int .u32 (XN.left : Int), .int .u32 (XN.right : Int), .int .i64 XN.size, .int .i64 XN.sum, .int .i64 XN.mn, .int .i64 XN.mx] 40 (0, 0))) (by simp), h2.apart (y := (qd, Obj.cells #[.slice da N dc, .slice db M dd] 32 (0, 0))) (by simp)⟩
          obtain ⟨⟨h1, h2⟩, ⟨h3, h4⟩, ⟨h5, h6⟩, ⟨h7, h8⟩, h9, h10⟩ := hap
          obtain ⟨d0, d1⟩ := two_cells (hsd.boxes (qd, Obj.cells #[.slice da N dc, .slice db M dd] 32 (0, 0)) (by simp)).2
          obtain ⟨⟨x0, x1, x2, x3, x4, x5, x6, x7⟩, -⟩ := row8_of (X := XN) (hsd.boxes (gx, Obj.cells #[Value.int .i64 XN.key, .int .i64 XN.val, .int .u32 (XN.left : Int), .int .u32 (XN.right : Int), .int .i64 XN.size, .int .i64 XN.sum, .int .i64 XN.mn, .int .i64 XN.mx] 40 (0, 0)) (by simp)).2
          go_region_held3 (fun w' => w'.cell? ⟨qd, 0, none⟩ = some (.slice da N dc) ∧ w'.cell? ⟨qd, 1, none⟩ = some (.slice db M dd) ∧ w'.cell? ⟨gx, 0, none⟩ = some (.int .i64 XN.key) ∧ w'.cell? ⟨gx, 1, none⟩ = some (.int .i64 XN.val) ∧ w'.cell? ⟨gx, 2, none⟩ = some (.int .u32 (XN.left : Int)) ∧ w'.cell? ⟨gx, 3, none⟩ = some (.int .u32 (XN.right : Int)) ∧ w'.cell? ⟨gx, 4, none⟩ = some (.int .i64 XN.size) ∧ w'.cell? ⟨gx, 5, none⟩ = some (.int .i64 XN.sum) ∧ w'.cell? ⟨gx, 6, none⟩ = some (.int .i64 XN.mn) ∧ w'.cell? ⟨gx, 7, none⟩ = some (.int .i64 XN.mx)) (go_keep) ((go_at_call_of 14 (Value.int .u32 (XN.left : Int)); refine (at12_any (a := da) (b := db) (N := N) (c := dc) (m := M) (d := dd) (i := XN.left) (HRD.out (by assumption)) HINV.out.ok HN.out HXL.out).mono ?_; rintro e wt ⟨rfl, hbt⟩; rw [HPN.out]; unfold ndRow; have hT := Scn.calm (by assumption) hbt; clear hbt; obtain ⟨d0, d1⟩ := two_cells (hT.boxes (qd, Obj.cells #[.slice da N dc, .slice db M dd] 32 (0, 0)) (by simp)).2; obtain ⟨⟨x0, x1, x2, x3, x4, x5, x6, x7⟩, -⟩ := row8_of (X := XN) (hT.boxes (gx, Obj.cells #[Value.int .i64 XN.key, .int .i64 XN.val, .int .u32 (XN.left : Int), .int .u32 (XN.right : Int), .int .i64 XN.size, .int .i64 XN.sum, .int .i64 XN.mn, .int .i64 XN.mx] 40 (0, 0)) (by simp)).2; obtain ⟨⟨p0, p1, p2, p3, p4, p5, p6, p7⟩, pf0, pf1, pf2, pf3, pf4, pf5, pf6, pf7⟩ := row8_of (X := XN) (hT.boxes (gp, Obj.cells #[Value.int .i64 XN.key, .int .i64 XN.val, .int .u32 (XN.left : Int), .int .u32 (XN.right : Int), .int .i64 XN.size, .int .i64 XN.sum, .int .i64 XN.mn, .int .i64 XN.mx] 40 (0, 0)) (by simp)).2; obtain ⟨⟨r0, r1, r2, r3, r4, r5, r6, r7⟩, rf0, rf1, rf2, rf3, rf4, rf5, rf6, rf7⟩ := row8_of (X := RN) (hT.boxes (gr, Obj.cells #[Value.int .i64 RN.key, .int .i64 RN.val, .int .u32 (RN.left : Int), .int .u32 (RN.right : Int), .int .i64 RN.size, .int .i64 RN.sum, .int .i64 RN.mn, .int .i64 RN.mx] 40 (0, 0)) (by simp)).2))
          all_goals (go_wp2_with fail; go_meet; exact ⟨rfl, ((hT.swap2.swap.put (Y := PN)).swap.put (Y := XN))⟩)
        case' rest =>
          rename World => w15
          obtain ⟨rfl, hs15⟩ := hcut
          have HS15 := Lib.hid hs15
          clear hs15 HS13
          obtain ⟨d0, d1⟩ := two_cells (HS15.out.boxes (qd, Obj.cells #[.slice da N dc, .slice db M dd] 32 (0, 0)) (by simp)).2
          obtain ⟨⟨p0, p1, p2, p3, p4, p5, p6, p7⟩, -⟩ := row8_of (X := PN) (HS15.out.boxes (gp, Obj.cells #[Value.int .i64 PN.key, .int .i64 PN.val, .int .u32 (PN.left : Int), .int .u32 (PN.right : Int), .int .i64 PN.size, .int .i64 PN.sum, .int .i64 PN.mn, .int .i64 PN.mx] 40 (0, 0)) (by simp)).2
          go_wp2_with fail
          refine (at12_any (a := da) (b := db) (N := N) (c := dc) (m := M) (d := dd) (i := PN.right) (HRD.out HS15.out) HINV.out.ok HN.out HPR.out).mono ?_
          rintro e w16 ⟨rfl, hb16⟩
          rw [HQM.out]
          unfold ndRow
          have HS16 := Lib.hid (HS15.out.calm hb16)
          clear hb16 HS15 d0 d1 p0 p1 p2 p3 p4 p5 p6 p7
          obtain ⟨⟨q0, q1, q2, q3, q4, q5, q6, q7⟩, qf0, qf1, qf2, qf3, qf4, qf5, qf6, qf7⟩ := row8_of (X := QN) (HS16.out.boxes (gq, Obj.cells #[Value.int .i64 QN.key, .int .i64 QN.val, .int .u32 (QN.left : Int), .int .u32 (QN.right : Int), .int .i64 QN.size, .int .i64 QN.sum, .int .i64 QN.mn, .int .i64 QN.mx] 40 (0, 0)) (by simp)).2
          go_upto_region 26 with fail
          have hs17 : Scn I w.heap.size w ((((((((w16.setCell ⟨gq, 0, none⟩ (.int .i64 QM.key)).setCell ⟨gq, 1, none⟩ (.int .i64 QM.val)).setCell ⟨gq, 2, none⟩ (.int .u32 (QM.left : Int))).setCell ⟨gq, 3, none⟩ (.int .u32 (QM.right : Int))).setCell ⟨gq, 4, none⟩ (.int .i64 QM.size)).setCell ⟨gq, 5, none⟩ (.int .i64 QM.sum)).setCell ⟨gq, 6, none⟩ (.int .i64 QM.mn)).setCell ⟨gq, 7, none⟩ (.int .i64 QM.mx)) (.pointer (some pa)) A4 rd4 rs [(gq, Obj.cells #[Value.int .i64 QM.key, .int .i64 QM.val, .int .u32 (QM.left : Int), .int .u32 (QM.right : Int), .int .i64 QM.size, .int .i64 QM.sum, .int .i64 QM.mn, .int .i64 QM.mx] 40 (0, 0)), (gp, Obj.cells #[Value.int .i64 PN.key, .int .i64 PN.val, .int .u32 (PN.left : Int), .int .u32 (PN.right : Int), .int .i64 PN.size, .int .i64 PN.sum, .int .i64 PN.mn, .int .i64 PN.mx] 40 (0, 0)), (gr, Obj.cells #[Value.int .i64 XN.key, .int .i64 XN.val, .int .u32 (XN.left : Int), .int .u32 (XN.right : Int), .int .i64 XN.size, .int .i64 XN.sum, .int .i64 XN.mn, .int .i64 XN.mx] 40 (0, 0)), (gx, Obj.cells #[Value.int .i64 XN.key, .int .i64 XN.val, .int .u32 (XN.left : Int), .int .u32 (XN.right : Int), .int .i64 XN.size, .int .i64 XN.sum, .int .i64 XN.mn, .int .i64 XN.mx] 40 (0, 0)), (qn, Obj.cells #[.slice na N nc, .slice nb M4 nd] 32 (0, 0)), (qd, Obj.cells #[.slice da N dc, .slice db M dd] 32 (0, 0))] := (HS16.out.swap.swap2.swap.put (Y := QM)).swap2.swap2
          generalize ((((((((w16.setCell ⟨gq, 0, none⟩ (.int .i64 QM.key)).setCell ⟨gq, 1, none⟩ (.int .i64 QM.val)).setCell ⟨gq, 2, none⟩ (.int .u32 (QM.left : Int))).setCell ⟨gq, 3, none⟩ (.int .u32 (QM.right : Int))).setCell ⟨gq, 4, none⟩ (.int .i64 QM.size)).setCell ⟨gq, 5, none⟩ (.int .i64 QM.sum)).setCell ⟨gq, 6, none⟩ (.int .i64 QM.mn)).setCell ⟨gq, 7, none⟩ (.int .i64 QM.mx)) = w17 at hs17 ⊢
          have HS17 := Lib.hid hs17
          clear hs17 HS16 q0 q1 q2 q3 q4 q5 q6 q7 qf0 qf1 qf2 qf3 qf4 qf5 qf6 qf7
          obtain ⟨⟨p0, p1, p2, p3, p4, p5, p6, p7⟩, -⟩ := row8_of (X := PN) (HS17.out.boxes (gp, Obj.cells #[Value.int .i64 PN.key, .int .i64 PN.val, .int .u32 (PN.left : Int), .int .u32 (PN.right : Int), .int .i64 PN.size, .int .i64 PN.sum, .int .i64 PN.mn, .int .i64 PN.mx] 40 (0, 0)) (by simp)).2
          obtain ⟨⟨r0, r1, r2, r3, r4, r5, r6, r7⟩, -⟩ := row8_of (X := XN) (HS17.out.boxes (gr, Obj.cells #[Value.int .i64 XN.key, .int .i64 XN.val, .int .u32 (XN.left : Int), .int .u32 (XN.right : Int), .int .i64 XN.size, .int .i64 XN.sum, .int .i64 XN.mn, .int .i64 XN.mx] 40 (0, 0)) (by simp)).2
          go_quiet (fail)
          rename Nat => q26
          have HS18 : Hid (Scn I w.heap.size w (w17.drewN q26) (.pointer (some pa)) A4 rd4 rs [(gq, Obj.cells #[Value.int .i64 QM.key, .int .i64 QM.val, .int .u32 (QM.left : Int), .int .u32 (QM.right : Int), .int .i64 QM.size, .int .i64 QM.sum, .int .i64 QM.mn, .int .i64 QM.mx] 40 (0, 0)), (gp, Obj.cells #[Value.int .i64 PN.key, .int .i64 PN.val, .int .u32 (PN.left : Int), .int .u32 (PN.right : Int), .int .i64 PN.size, .int .i64 PN.sum, .int .i64 PN.mn, .int .i64 PN.mx] 40 (0, 0)), (gr, Obj.cells #[Value.int .i64 XN.key, .int .i64 XN.val, .int .u32 (XN.left : Int), .int .u32 (XN.right : Int), .int .i64 XN.size, .int .i64 XN.sum, .int .i64 XN.mn, .int .i64 XN.mx] 40 (0, 0)), (gx, Obj.cells #[Value.int .i64 XN.key, .int .i64 XN.val, .int .u32 (XN.left : Int), .int .u32 (XN.right : Int), .int .i64 XN.size, .int .i64 XN.sum, .int .i64 XN.mn, .int .i64 XN.mx] 40 (0, 0)), (qn, Obj.cells #[.slice na N nc, .slice nb M4 nd] 32 (0, 0)), (qd, Obj.cells #[.slice da N dc, .slice db M dd] 32 (0, 0))]) := HS17.out.calm (below_drewN (Below.refl _ _) q26)
          generalize w17.drewN q26 = w18 at HS18 ⊢
          clear HS17 p0 p1 p2 p3 p4 p5 p6 p7 r0 r1 r2 r3 r4 r5 r6 r7
          obtain ⟨r1, r2, r3, r4, r5, r6, r7⟩ := HD.out
          have HR1 := Lib.hid r1
          have HR2 := Lib.hid r2
          have HR3 := Lib.hid r3
          have HR4 := Lib.hid r4
          have HR5 := Lib.hid r5
          have HR6 := Lib.hid r6
          have HR7 := Lib.hid r7
          clear r1 r2 r3 r4 r5 r6 r7 HD
          obtain ⟨n0, n1⟩ := two_cells (HS18.out.boxes (qn, Obj.cells #[.slice na N nc, .slice nb M4 nd] 32 (0, 0)) (by simp)).2
          go_wp2_with fail
          refine (at12_any (a := na) (b := nb) (N := N) (c := nc) (m := M4) (d := nd) (i := j) (HRN4.out HS18.out) HTU.out.inv.ok HN4.out HR7.out).mono ?_
          rintro e w19 ⟨rfl, hb19⟩
          obtain ⟨YN, hYN⟩ : ∃ x, A4.nz j = x := ⟨_, rfl⟩
          rw [hYN]
          have HYN := Lib.hid hYN
          unfold ndRow
          have hs19 := (HS18.out.calm hb19).box #[Value.int .i64 YN.key, .int .i64 YN.val, .int .u32 (YN.left : Int), .int .u32 (YN.right : Int), .int .i64 YN.size, .int .i64 YN.sum, .int .i64 YN.mn, .int .i64 YN.mx] 40
          clear hb19 HS18 hYN n0 n1
          go_upto_region 28 with fail
          generalize w19.alloc (Obj.cells #[Value.int .i64 YN.key, .int .i64 YN.val, .int .u32 (YN.left : Int), .int .u32 (YN.right : Int), .int .i64 YN.size, .int .i64 YN.sum, .int .i64 YN.mn, .int .i64 YN.mx] 40) = w20 at hs19 ⊢
          generalize w19.heap.size = gy at hs19 ⊢
          have HS20 := Lib.hid hs19
          clear hs19
          rw [HYN.out] at HR1 HR2 HR3 HR5 HR6
          have HYK : Hid (YN.left < 4294967296 ∧ YN.right < 4294967296) := by have h := nz_kids HTU.out.inv j; rw [HYN.out] at h; exact h
          obtain ⟨ZA, hZA⟩ : ∃ x, A4.nz YN.left = x := ⟨_, rfl⟩
          rw [hZA] at HR2
          have HZA := Lib.hid hZA
          obtain ⟨ZB, hZB⟩ : ∃ x, A4.nz YN.right = x := ⟨_, rfl⟩
          rw [hZB] at HR3
          have HZB := Lib.hid hZB
          clear hZA hZB
          have hsd : Scn I w.heap.size w w20.drew (.pointer (some pa)) A4 rd4 rs [(gy, Obj.cells #[Value.int .i64 YN.key, .int .i64 YN.val, .int .u32 (YN.left : Int), .int .u32 (YN.right : Int), .int .i64 YN.size, .int .i64 YN.sum, .int .i64 YN.mn, .int .i64 YN.mx] 40 (0, 0)), (gq, Obj.cells #[Value.int .i64 QM.key, .int .i64 QM.val, .int .u32 (QM.left : Int), .int .u32 (QM.right : Int), .int .i64 QM.size, .int .i64 QM.sum, .int .i64 QM.mn, .int .i64 QM.mx] 40 (0, 0)), (gp, Obj.cells #[Value.int .i64 PN.key, .int .i64 PN.val, .int .u32 (PN.left : Int), .int .u32 (PN.right : Int), .int .i64 PN.size, .int .i64 PN.sum, .int .i64 PN.mn, .int .i64 PN.mx] 40 (0, 0)), (gr, Obj.cells #[Value.int .i64 XN.key, .int .i64 XN.val, .int .u32 (XN.left : Int), .int .u32 (XN.right : Int), .int .i64 XN.size, .int .i64 XN.sum, .int .i64 XN.mn, .int .i64 XN.mx] 40 (0, 0)), (gx, Obj.cells #[Value.int .i64 XN.key, .int .i64 XN.val, .int .u32 (XN.left : Int), .int .u32 (XN.right : Int), .int .i64 XN.size, .int .i64 XN.sum, .int .i64 XN.mn, .int .i64 XN.mx] 40 (0, 0)), (qn, Obj.cells #[.slice na N nc, .slice nb M4 nd] 32 (0, 0)), (qd, Obj.cells #[.slice da N dc, .slice db M dd] 32 (0, 0))] := HS20.out.calm (Below.refl _ _).drew
          clear HS20
          obtain ⟨⟨y0, y1, y2, y3, y4, y5, y6, y7⟩, -⟩ := row8_of (X := YN) (hsd.boxes (gy, Obj.cells #[Value.int .i64 YN.key, .int .i64 YN.val, .int .u32 (YN.left : Int), .int .u32 (YN.right : Int), .int .i64 YN.size, .int .i64 YN.sum, .int .i64 YN.mn, .int .i64 YN.mx] 40 (0, 0)) (by simp)).2
          obtain ⟨⟨q0, q1, q2, q3, q4, q5, q6, q7⟩, -⟩ := row8_of (X := QM) (hsd.boxes (gq, Obj.cells #[Value.int .i64 QM.key, .int .i64 QM.val, .int .u32 (QM.left : Int), .int .u32 (QM.right : Int), .int .i64 QM.size, .int .i64 QM.sum, .int .i64 QM.mn, .int .i64 QM.mx] 40 (0, 0)) (by simp)).2
          obtain ⟨⟨p0, p1, p2, p3, p4, p5, p6, p7⟩, -⟩ := row8_of (X := PN) (hsd.boxes (gp, Obj.cells #[Value.int .i64 PN.key, .int .i64 PN.val, .int .u32 (PN.left : Int), .int .u32 (PN.right : Int), .int .i64 PN.size, .int .i64 PN.sum, .int .i64 PN.mn, .int .i64 PN.mx] 40 (0, 0)) (by simp)).2
          obtain ⟨⟨r0, r1, r2, r3, r4, r5, r6, r7⟩, -⟩ := row8_of (X := XN) (hsd.boxes (gr, Obj.cells #[Value.int .i64 XN.key, .int .i64 XN.val, .int .u32 (XN.left : Int), .int .u32 (XN.right : Int), .int .i64 XN.size, .int .i64 XN.sum, .int .i64 XN.mn, .int .i64 XN.mx] 40 (0, 0)) (by simp)).2
          obtain ⟨n0, n1⟩ := two_cells (hsd.boxes (qn, Obj.cells #[.slice na N nc, .slice nb M4 nd] 32 (0, 0)) (by simp)).2
          go_region_held3 (fun w' => w'.cell? ⟨gy, 0, none⟩ = some (.int .i64 YN.key) ∧ w'.cell? ⟨gy, 1, none⟩ = some (.int .i64 YN.val) ∧ w'.cell? ⟨gy, 2, none⟩ = some (.int .u32 (YN.left : Int)) ∧ w'.cell? ⟨gy, 3, none⟩ = some (.int .u32 (YN.right : Int)) ∧ w'.cell? ⟨gy, 4, none⟩ = some (.int .i64 YN.size) ∧ w'.cell? ⟨gy, 5, none⟩ = some (.int .i64 YN.sum) ∧ w'.cell? ⟨gy, 6, none⟩ = some (.int .i64 YN.mn) ∧ w'.cell? ⟨gy, 7, none⟩ = some (.int .i64 YN.mx) ∧ w'.cell? ⟨gq, 0, none⟩ = some (.int .i64 QM.key) ∧ w'.cell? ⟨gq, 1, none⟩ = some (.int .i64 QM.val) ∧ w'.cell? ⟨gq, 2, none⟩ = some (.int .u32 (QM.left : Int)) ∧ w'.cell? ⟨gq, 3, none⟩ = some (.int .u32 (QM.right : Int)) ∧ w'.cell? ⟨gq, 4, none⟩ = some (.int .i64 QM.size) ∧ w'.cell? ⟨gq, 5, none⟩ = some (.int .i64 QM.sum) ∧ w'.cell? ⟨gq, 6, none⟩ = some (.int .i64 QM.mn) ∧ w'.cell? ⟨gq, 7, none⟩ = some (.int .i64 QM.mx) ∧ w'.cell? ⟨gp, 0, none⟩ = some (.int .i64 PN.key) ∧ w'.cell? ⟨gp, 1, none⟩ = some (.int .i64 PN.val) ∧ w'.cell? ⟨gp, 2, none⟩ = some (.int .u32 (PN.left : Int)) ∧ w'.cell? ⟨gp, 3, none⟩ = some (.int .u32 (PN.right : Int)) ∧ w'.cell? ⟨gp, 4, none⟩ = some (.int .i64 PN.size) ∧ w'.cell? ⟨gp, 5, none⟩ = some (.int .i64 PN.sum) ∧ w'.cell? ⟨gp, 6, none⟩ = some (.int .i64 PN.mn) ∧ w'.cell? ⟨gp, 7, none⟩ = some (.int .i64 PN.mx) ∧ w'.cell? ⟨gr, 0, none⟩ = some (.int .i64 XN.key) ∧ w'.cell? ⟨gr, 1, none⟩ = some (.int .i64 XN.val) ∧ w'.cell? ⟨gr, 2, none⟩ = some (.int .u32 (XN.left : Int)) ∧ w'.cell? ⟨gr, 3, none⟩ = some (.int .u32 (XN.right : Int)) ∧ w'.cell? ⟨gr, 4, none⟩ = some (.int .i64 XN.size) ∧ w'.cell? ⟨gr, 5, none⟩ = some (.int .i64 XN.sum) ∧ w'.cell? ⟨gr, 6, none⟩ = some (.int .i64 XN.mn) ∧ w'.cell? ⟨gr, 7, none⟩ = some (.int .i64 XN.mx) ∧ w'.cell? ⟨qn, 0, none⟩ = some (.slice na N nc) ∧ w'.cell? ⟨qn, 1, none⟩ = some (.slice nb M4 nd)) (go_keep) (first
            | (go_at_call_of 15 (Value.agg #[Value.int .i64 YN.key, .int .i64 YN.val, .int .u32 (YN.left : Int), .int .u32 (YN.right : Int), .int .i64 YN.size, .int .i64 YN.sum, .int .i64 YN.mn, .int .i64 YN.mx]); refine (is12_any YN QM YN.left YN.right _).mono ?_; rintro e wt ⟨rfl, hbt⟩; rw [HR1.out]; have hT := Scn.calm (by assumption) hbt; clear hbt; obtain ⟨⟨y0, y1, y2, y3, y4, y5, y6, y7⟩, -⟩ := row8_of (X := YN) (hT.boxes (gy, Obj.cells #[Value.int .i64 YN.key, .int .i64 YN.val, .int .u32 (YN.left : Int), .int .u32 (YN.right : Int), .int .i64 YN.size, .int .i64 YN.sum, .int .i64 YN.mn, .int .i64 YN.mx] 40 (0, 0)) (by simp)).2; obtain ⟨⟨q0, q1, q2, q3, q4, q5, q6, q7⟩, -⟩ := row8_of (X := QM) (hT.boxes (gq, Obj.cells #[Value.int .i64 QM.key, .int .i64 QM.val, .int .u32 (QM.left : Int), .int .u32 (QM.right : Int), .int .i64 QM.size, .int .i64 QM.sum, .int .i64 QM.mn, .int .i64 QM.mx] 40 (0, 0)) (by simp)).2; obtain ⟨⟨p0, p1, p2, p3, p4, p5, p6, p7⟩, -⟩ := row8_of (X := PN) (hT.boxes (gp, Obj.cells #[Value.int .i64 PN.key, .int .i64 PN.val, .int .u32 (PN.left : Int), .int .u32 (PN.right : Int), .int .i64 PN.size, .int .i64 PN.sum, .int .i64 PN.mn, .int .i64 PN.mx] 40 (0, 0)) (by simp)).2; obtain ⟨⟨r0, r1, r2, r3, r4, r5, r6, r7⟩, -⟩ := row8_of (X := XN) (hT.boxes (gr, Obj.cells #[Value.int .i64 XN.key, .int .i64 XN.val, .int .u32 (XN.left : Int), .int .u32 (XN.right : Int), .int .i64 XN.size, .int .i64 XN.sum, .int .i64 XN.mn, .int .i64 XN.mx] 40 (0, 0)) (by simp)).2; obtain ⟨n0, n1⟩ := two_cells (hT.boxes (qn, Obj.cells #[.slice na N nc, .slice nb M4 nd] 32 (0, 0)) (by simp)).2)
            | (go_at_call_of 14 (Value.int .u32 (YN.left : Int)); refine (at12_any (a := na) (b := nb) (N := N) (c := nc) (m := M4) (d := nd) (i := YN.left) (HRN4.out (by assumption)) HTU.out.inv.ok HN4.out HYK.out.1).mono ?_; rintro e wt ⟨rfl, hbt⟩; rw [HZA.out]; unfold ndRow; have hT := Scn.calm (by assumption) hbt; clear hbt; obtain ⟨⟨y0, y1, y2, y3, y4, y5, y6, y7⟩, -⟩ := row8_of (X := YN) (hT.boxes (gy, Obj.cells #[Value.int .i64 YN.key, .int .i64 YN.val, .int .u32 (YN.left : Int), .int .u32 (YN.right : Int), .int .i64 YN.size, .int .i64 YN.sum, .int .i64 YN.mn, .int .i64 YN.mx] 40 (0, 0)) (by simp)).2; obtain ⟨⟨q0, q1, q2, q3, q4, q5, q6, q7⟩, -⟩ := row8_of (X := QM) (hT.boxes (gq, Obj.cells #[Value.int .i64 QM.key, .int .i64 QM.val, .int .u32 (QM.left : Int), .int .u32 (QM.right : Int), .int .i64 QM.size, .int .i64 QM.sum, .int .i64 QM.mn, .int .i64 QM.mx] 40 (0, 0)) (by simp)).2; obtain ⟨⟨p0, p1, p2, p3, p4, p5, p6, p7⟩, -⟩ := row8_of (X := PN) (hT.boxes (gp, Obj.cells #[Value.int .i64 PN.key, .int .i64 PN.val, .int .u32 (PN.left : Int), .int .u32 (PN.right : Int), .int .i64 PN.size, .int .i64 PN.sum, .int .i64 PN.mn, .int .i64 PN.mx] 40 (0, 0)) (by simp)).2; obtain ⟨⟨r0, r1, r2, r3, r4, r5, r6, r7⟩, -⟩ := row8_of (X := XN) (hT.boxes (gr, Obj.cells #[Value.int .i64 XN.key, .int .i64 XN.val, .int .u32 (XN.left : Int), .int .u32 (XN.right : Int), .int .i64 XN.size, .int .i64 XN.sum, .int .i64 XN.mn, .int .i64 XN.mx] 40 (0, 0)) (by simp)).2; obtain ⟨n0, n1⟩ := two_cells (hT.boxes (qn, Obj.cells #[.slice na N nc, .slice nb M4 nd] 32 (0, 0)) (by simp)).2)
            | (go_at_call_of 15 (Value.agg #[Value.int .i64 PN.key, .int .i64 PN.val, .int .u32 (PN.left : Int), .int .u32 (PN.right : Int), .int .i64 PN.size, .int .i64 PN.sum, .int .i64 PN.mn, .int .i64 PN.mx]); refine (is12_any ZA PN PN.left QM.left _).mono ?_; rintro e wt ⟨rfl, hbt⟩; rw [HR2.out]; have hT := Scn.calm (by assumption) hbt; clear hbt; obtain ⟨⟨y0, y1, y2, y3, y4, y5, y6, y7⟩, -⟩ := row8_of (X := YN) (hT.boxes (gy, Obj.cells #[Value.int .i64 YN.key, .int .i64 YN.val, .int .u32 (YN.left : Int), .int .u32 (YN.right : Int), .int .i64 YN.size, .int .i64 YN.sum, .int .i64 YN.mn, .int .i64 YN.mx] 40 (0, 0)) (by simp)).2; obtain ⟨⟨q0, q1, q2, q3, q4, q5, q6, q7⟩, -⟩ := row8_of (X := QM) (hT.boxes (gq, Obj.cells #[Value.int .i64 QM.key, .int .i64 QM.val, .int .u32 (QM.left : Int), .int .u32 (QM.right : Int), .int .i64 QM.size, .int .i64 QM.sum, .int .i64 QM.mn, .int .i64 QM.mx] 40 (0, 0)) (by simp)).2; obtain ⟨⟨p0, p1, p2, p3, p4, p5, p6, p7⟩, -⟩ := row8_of (X := PN) (hT.boxes (gp, Obj.cells #[Value.int .i64 PN.key, .int .i64 PN.val, .int .u32 (PN.left : Int), .int .u32 (PN.right : Int), .int .i64 PN.size, .int .i64 PN.sum, .int .i64 PN.mn, .int .i64 PN.mx] 40 (0, 0)) (by simp)).2; obtain ⟨⟨r0, r1, r2, r3, r4, r5, r6, r7⟩, -⟩ := row8_of (X := XN) (hT.boxes (gr, Obj.cells #[Value.int .i64 XN.key, .int .i64 XN.val, .int .u32 (XN.left : Int), .int .u32 (XN.right : Int), .int .i64 XN.size, .int .i64 XN.sum, .int .i64 XN.mn, .int .i64 XN.mx] 40 (0, 0)) (by simp)).2; obtain ⟨n0, n1⟩ := two_cells (hT.boxes (qn, Obj.cells #[.slice na N nc, .slice nb M4 nd] 32 (0, 0)) (by simp)).2)
            | (go_at_call_of 14 (Value.int .u32 (YN.right : Int)); refine (at12_any (a := na) (b := nb) (N := N) (c := nc) (m := M4) (d := nd) (i := YN.right) (HRN4.out (by assumption)) HTU.out.inv.ok HN4.out HYK.out.2).mono ?_; rintro e wt ⟨rfl, hbt⟩; rw [HZB.out]; unfold ndRow; have hT := Scn.calm (by assumption) hbt; clear hbt; obtain ⟨⟨y0, y1, y2, y3, y4, y5, y6, y7⟩, -⟩ := row8_of (X := YN) (hT.boxes (gy, Obj.cells #[Value.int .i64 YN.key, .int .i64 YN.val, .int .u32 (YN.left : Int), .int .u32 (YN.right : Int), .int .i64 YN.size, .int .i64 YN.sum, .int .i64 YN.mn, .int .i64 YN.mx] 40 (0, 0)) (by simp)).2; obtain ⟨⟨q0, q1, q2, q3, q4, q5, q6, q7⟩, -⟩ := row8_of (X := QM) (hT.boxes (gq, Obj.cells #[Value.int .i64 QM.key, .int .i64 QM.val, .int .u32 (QM.left : Int), .int .u32 (QM.right : Int), .int .i64 QM.size, .int .i64 QM.sum, .int .i64 QM.mn, .int .i64 QM.mx] 40 (0, 0)) (by simp)).2; obtain ⟨⟨p0, p1, p2, p3, p4, p5, p6, p7⟩, -⟩ := row8_of (X := PN) (hT.boxes (gp, Obj.cells #[Value.int .i64 PN.key, .int .i64 PN.val, .int .u32 (PN.left : Int), .int .u32 (PN.right : Int), .int .i64 PN.size, .int .i64 PN.sum, .int .i64 PN.mn, .int .i64 PN.mx] 40 (0, 0)) (by simp)).2; obtain ⟨⟨r0, r1, r2, r3, r4, r5, r6, r7⟩, -⟩ := row8_of (X := XN) (hT.boxes (gr, Obj.cells #[Value.int .i64 XN.key, .int .i64 XN.val, .int .u32 (XN.left : Int), .int .u32 (XN.right : Int), .int .i64 XN.size, .int .i64 XN.sum, .int .i64 XN.mn, .int .i64 XN.mx] 40 (0, 0)) (by simp)).2; obtain ⟨n0, n1⟩ := two_cells (hT.boxes (qn, Obj.cells #[.slice na N nc, .slice nb M4 nd] 32 (0, 0)) (by simp)).2)
            | (go_at_call_of 15 (Value.agg #[Value.int .i64 XN.key, .int .i64 XN.val, .int .u32 (XN.left : Int), .int .u32 (XN.right : Int), .int .i64 XN.size, .int .i64 XN.sum, .int .i64 XN.mn, .int .i64 XN.mx]); refine (is12_any ZB XN QM.right XN.right _).mono ?_; rintro e wt ⟨rfl, hbt⟩; rw [HR3.out]; have hT := Scn.calm (by assumption) hbt; clear hbt; obtain ⟨⟨y0, y1, y2, y3, y4, y5, y6, y7⟩, -⟩ := row8_of (X := YN) (hT.boxes (gy, Obj.cells #[Value.int .i64 YN.key, .int .i64 YN.val, .int .u32 (YN.left : Int), .int .u32 (YN.right : Int), .int .i64 YN.size, .int .i64 YN.sum, .int .i64 YN.mn, .int .i64 YN.mx] 40 (0, 0)) (by simp)).2; obtain ⟨⟨q0, q1, q2, q3, q4, q5, q6, q7⟩, -⟩ := row8_of (X := QM) (hT.boxes (gq, Obj.cells #[Value.int .i64 QM.key, .int .i64 QM.val, .int .u32 (QM.left : Int), .int .u32 (QM.right : Int), .int .i64 QM.size, .int .i64 QM.sum, .int .i64 QM.mn, .int .i64 QM.mx] 40 (0, 0)) (by simp)).2; obtain ⟨⟨p0, p1, p2, p3, p4, p5, p6, p7⟩, -⟩ := row8_of (X := PN) (hT.boxes (gp, Obj.cells #[Value.int .i64 PN.key, .int .i64 PN.val, .int .u32 (PN.left : Int), .int .u32 (PN.right : Int), .int .i64 PN.size, .int .i64 PN.sum, .int .i64 PN.mn, .int .i64 PN.mx] 40 (0, 0)) (by simp)).2; obtain ⟨⟨r0, r1, r2, r3, r4, r5, r6, r7⟩, -⟩ := row8_of (X := XN) (hT.boxes (gr, Obj.cells #[Value.int .i64 XN.key, .int .i64 XN.val, .int .u32 (XN.left : Int), .int .u32 (XN.right : Int), .int .i64 XN.size, .int .i64 XN.sum, .int .i64 XN.mn, .int .i64 XN.mx] 40 (0, 0)) (by simp)).2; obtain ⟨n0, n1⟩ := two_cells (hT.boxes (qn, Obj.cells #[.slice na N nc, .slice nb M4 nd] 32 (0, 0)) (by simp)).2))
          have HS21 := Lib.hid hT
          clear hT hsd
          try clear y0 y1 y2 y3 y4 y5 y6 y7 q0 q1 q2 q3 q4 q5 q6 q7 p0 p1 p2 p3 p4 p5 p6 p7 r0 r1 r2 r3 r4 r5 r6 r7 n0 n1
          skip
          obtain ⟨d0, d1⟩ := two_cells (HS21.out.boxes (qd, Obj.cells #[.slice da N dc, .slice db M dd] 32 (0, 0)) (by simp)).2
          obtain ⟨n0, n1⟩ := two_cells (HS21.out.boxes (qn, Obj.cells #[.slice na N nc, .slice nb M4 nd] 32 (0, 0)) (by simp)).2
          obtain ⟨⟨y0, y1, y2, y3, y4, y5, y6, y7⟩, -⟩ := row8_of (X := YN) (HS21.out.boxes (gy, Obj.cells #[Value.int .i64 YN.key, .int .i64 YN.val, .int .u32 (YN.left : Int), .int .u32 (YN.right : Int), .int .i64 YN.size, .int .i64 YN.sum, .int .i64 YN.mn, .int .i64 YN.mx] 40 (0, 0)) (by simp)).2
          go_wp2_with fail
          refine (fresh12_any (a := da) (b := db) (N := N) (c := dc) (m := M) (d := dd) (a' := na) (b' := nb) (c' := nc) (m' := M4) (d' := nd) (i := j) (HRD.out HS21.out) HINV.out.ok HN.out (HRN4.out HS21.out) HTU.out.inv.ok HN4.out HR7.out).mono ?_
          rintro e w22 ⟨rfl, hb22⟩
          rw [HR4.out]
          have HS22 := Lib.hid (HS21.out.calm hb22)
          clear hb22 HS21 d0 d1 n0 n1 y0 y1 y2 y3 y4 y5 y6 y7
          obtain ⟨d0, d1⟩ := two_cells (HS22.out.boxes (qd, Obj.cells #[.slice da N dc, .slice db M dd] 32 (0, 0)) (by simp)).2
          obtain ⟨n0, n1⟩ := two_cells (HS22.out.boxes (qn, Obj.cells #[.slice na N nc, .slice nb M4 nd] 32 (0, 0)) (by simp)).2
          obtain ⟨⟨y0, y1, y2, y3, y4, y5, y6, y7⟩, -⟩ := row8_of (X := YN) (HS22.out.boxes (gy, Obj.cells #[Value.int .i64 YN.key, .int .i64 YN.val, .int .u32 (YN.left : Int), .int .u32 (YN.right : Int), .int .i64 YN.size, .int .i64 YN.sum, .int .i64 YN.mn, .int .i64 YN.mx] 40 (0, 0)) (by simp)).2
          go_wp2_with fail
          refine (fresh12_any (a := da) (b := db) (N := N) (c := dc) (m := M) (d := dd) (a' := na) (b' := nb) (c' := nc) (m' := M4) (d' := nd) (i := YN.left) (HRD.out HS22.out) HINV.out.ok HN.out (HRN4.out HS22.out) HTU.out.inv.ok HN4.out HYK.out.1).mono ?_
          rintro e w23 ⟨rfl, hb23⟩
          rw [HR5.out]
          have HS23 := Lib.hid (HS22.out.calm hb23)
          clear hb23 HS22 d0 d1 n0 n1 y0 y1 y2 y3 y4 y5 y6 y7
          obtain ⟨d0, d1⟩ := two_cells (HS23.out.boxes (qd, Obj.cells #[.slice da N dc, .slice db M dd] 32 (0, 0)) (by simp)).2
          obtain ⟨n0, n1⟩ := two_cells (HS23.out.boxes (qn, Obj.cells #[.slice na N nc, .slice nb M4 nd] 32 (0, 0)) (by simp)).2
          obtain ⟨⟨y0, y1, y2, y3, y4, y5, y6, y7⟩, -⟩ := row8_of (X := YN) (HS23.out.boxes (gy, Obj.cells #[Value.int .i64 YN.key, .int .i64 YN.val, .int .u32 (YN.left : Int), .int .u32 (YN.right : Int), .int .i64 YN.size, .int .i64 YN.sum, .int .i64 YN.mn, .int .i64 YN.mx] 40 (0, 0)) (by simp)).2
          go_wp2_with fail
          refine (fresh12_any (a := da) (b := db) (N := N) (c := dc) (m := M) (d := dd) (a' := na) (b' := nb) (c' := nc) (m' := M4) (d' := nd) (i := YN.right) (HRD.out HS23.out) HINV.out.ok HN.out (HRN4.out HS23.out) HTU.out.inv.ok HN4.out HYK.out.2).mono ?_
          rintro e w24 ⟨rfl, hb24⟩
          rw [HR6.out]
          have HS24 := Lib.hid (HS23.out.calm hb24)
          clear hb24 HS23 d0 d1 n0 n1 y0 y1 y2 y3 y4 y5 y6 y7
          obtain ⟨d0, d1⟩ := two_cells (HS24.out.boxes (qd, Obj.cells #[.slice da N dc, .slice db M dd] 32 (0, 0)) (by simp)).2
          obtain ⟨n0, n1⟩ := two_cells (HS24.out.boxes (qn, Obj.cells #[.slice na N nc, .slice nb M4 nd] 32 (0, 0)) (by simp)).2
          obtain ⟨⟨y0, y1, y2, y3, y4, y5, y6, y7⟩, -⟩ := row8_of (X := YN) (HS24.out.boxes (gy, Obj.cells #[Value.int .i64 YN.key, .int .i64 YN.val, .int .u32 (YN.left : Int), .int .u32 (YN.right : Int), .int .i64 YN.size, .int .i64 YN.sum, .int .i64 YN.mn, .int .i64 YN.mx] 40 (0, 0)) (by simp)).2
          go_wp2_with fail
          refine HS24.out.free.mono ?_
          rintro e w25 ⟨rfl, hs25⟩
          rw [HM5.out]
          have HS25 := Lib.hid hs25
          clear hs25 HS24 d0 d1 n0 n1 y0 y1 y2 y3 y4 y5 y6 y7
          have wf : IntKind.i64.wrap ((sp : Int) - 3) = (M4 : Int) := by rw [IntKind.wrap_i64]; have h1 := HM4.out; have h2 := HSP.out; omega
          obtain ⟨d0, d1⟩ := two_cells (HS25.out.boxes (qd, Obj.cells #[.slice da N dc, .slice db M dd] 32 (0, 0)) (by simp)).2
          obtain ⟨n0, n1⟩ := two_cells (HS25.out.boxes (qn, Obj.cells #[.slice na N nc, .slice nb M4 nd] 32 (0, 0)) (by simp)).2
          go_wp2_with fail
          refine (kept_any (a := da) (b := db) (n := N) (c := dc) (m := M) (d := dd) (a' := na) (b' := nb) (c' := nc) (m' := M4) (d' := nd) (HRD.out HS25.out) (HRN4.out HS25.out) (turned_keptD HTU.out) (by have h1 := HINV.out.ok.cap2; have h2 := HN.out; omega)).mono ?_
          rintro e w26 ⟨rfl, hb26⟩
          have hmr := (HMR.out (HS25.out.calm hb26)).calm (below_new7 w26 (Obj.cells #[Value.int .u32 (j : Int)] 28))
          have hrow := hmr.rows ⟨28, 1, .slice (some ⟨gm, 0, none⟩) L xc, L, u32s l⟩ (by simp)
          have hB := hmr.mr.hB
          have hnew := cell_new1 w26 (Value.int .u32 (j : Int)) 28
          have HMS := Lib.hid hmr
          have hLi41 : (L : Int) ≤ 41 := by have := HLL.out; omega
          clear hb26 HS25 hmr d0 d1 n0 n1
          go_wp2_with (at_builtin; refine wpList_append_g (by rfl) (.tmp 183) (.tmp 185) 24 rfl w.heap.size 28 i0 (.int .u32 0) 1 4 Try.underlying24 ji jz0 jz1 jz2 rfl (by decide) _ L (u32s l) rfl hrow ⟨w26.heap.size, 0, none⟩ 1 1 [.int .u32 (j : Int)] rfl rfl hnew (one_cell1 _ _) (by unfold maxLen; omega) (by omega) hB ?_; intro v6 wf6 ho6 hg6 hv6)
          obtain ⟨va, vc, rfl⟩ := row_val ho6
          have hsf := HMS.out.grew ho6 hg6 hv6
          have hlen : (l ++ [j]).length = L + 1 := by rw [List.length_append, HLL.out.1]; rfl
          have hj0 : j ≠ 0 := by intro h; subst h; have h1 := HR4.out; have h2 : A4.σ.on 0 = true := by simp only [Bool.and_eq_true] at h1; exact h1.1
                                 have := HTU.out.inv.ok.on 0 h2; omega
          have hon : A4.σ.on j = true := by have h1 := HR4.out; simp only [Bool.and_eq_true] at h1; exact h1.1
          have hut : U32At wf6 va (l ++ [j]) := row_u32 (c := vc) (by rw [hlen, u32s_app]; exact ho6) (fun y hy => by
            rcases List.mem_append.1 hy with hy | hy
            · exact idx_lt4 HINV.out y hy
            · simp at hy; subst hy; exact HR7.out)
          have hiv : A4.Inv [] (hof (l ++ [j])) := by rw [hof_more l hj0]; exact HTU.out.inv
          refine (hsf.sound HCHK.out hiv HTU.out.agg hut (L := L + 1) hlen (by have := HLL.out; omega) (fun x hx => ?_)).mono ?_
          · rcases List.mem_append.1 hx with hx | hx
            · exact (held_idx HINV.out (.inr hx)).imp_right (HTU.out.kept.on x)
            · simp at hx; subst hx; exact .inr hon
          rintro e wz ⟨rfl, hbz⟩
          have HB := Lib.hid (hsf.calm hbz).below
          clear hbz hsf ho6 hg6 hv6 hut hiv hrow hB hnew
          go_wp2_with fail
          go_ret
          exact ⟨rfl, HB.out⟩
end Go.Proofs.Ytkhfofpbmnapjaa
