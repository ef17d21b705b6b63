/- Of the proofs of SetopsUnion, SetopsIntersect, SetopsSubtract: JnOk, StOk2, StOk3. -/
import Derived.Test.YtfihklpofmcfgaaGreatA1613
set_option linter.unusedVariables false
set_option linter.unusedSimpArgs false
namespace Go.Proofs.YtfihklpofmcfgaaGreat
open Go.RowKit
theorem allLtJ {l : List En} (hu : Up l) (k : Int) : AllLt l k ↔ ∀ x, l.getLast? = some x → x.key < k := by
  constructor
  · intro h x hx
    exact h x (List.mem_of_getLast? hx)
  · intro h y hy
    obtain ⟨x, hx⟩ : ∃ x, l.getLast? = some x := ⟨_, List.getLast?_eq_some_getLast (fun e => by rw [e] at hy; cases hy)⟩
    have h0 := h x hx
    obtain ⟨i, hi, rfl⟩ := List.mem_iff_getElem.1 hy
    rw [List.getLast?_eq_getElem?] at hx
    obtain ⟨hj, rfl⟩ := List.getElem?_eq_some_iff.1 hx
    rcases Nat.lt_or_ge i (l.length - 1) with h2 | h2
    · have := List.pairwise_iff_getElem.1 hu i (l.length - 1) hi hj h2; omega
    · have h3 : i = l.length - 1 := by omega
      subst h3; exact h0
theorem allGtJ {l : List En} (hu : Up l) (k : Int) : AllGt l k ↔ ∀ x, l.head? = some x → k < x.key := by
  constructor
  · intro h x hx
    exact h x (List.mem_of_mem_head? hx)
  · intro h y hy
    cases l with
    | nil => cases hy
    | cons z t =>
      have h0 := h z rfl
      rcases List.mem_cons.1 hy with rfl | hy
      · exact h0
      · have := (List.pairwise_cons.1 hu).1 y hy; omega
theorem results_tmp5 {fn : Func} {a b c d e : Tmp} (h : fn.results = #[.tmp a, .tmp b, .tmp c, .tmp d, .tmp e]) (tmps : Array Value) (P : Program) (w : World) :
    (results fn tmps).run P w = .ok (.tuple #[tmps.getD a undef, tmps.getD b undef, tmps.getD c undef, tmps.getD d undef, tmps.getD e undef]) w := by
  simp [results, h]
theorem splitJ {n : Nat} (hn : n ≤ 65536) : splitI (n : Int) = 12 * ((xh n : Int) + 2) := by
  unfold splitI needI
  have hv : vld (n : Int) ∧ vld 0 ∧ vld 0 := by unfold vld; omega
  rw [if_pos hv, show (n : Int) + 0 + 0 + 0 = (n : Int) by omega, xhI_nat (by omega)]
  omega
/-- what Join answers, how many slots it takes and how often it reads -/
def JoinS (A : Ar) (rd : Int) (held : Nat → Nat) (L R : Nat) (tl tr : Tr) (ll lr : List En) (e : En) (en : Ending) (B : Ar) (rd' : Int) : Prop :=
  JoinQ A rd held L R ll lr e en B rd' ∧ A.σ.free.length ≤ B.σ.free.length + 3 * jd tl tr + 1 ∧ rd' ≤ rd + (tl.ht : Int) + (tr.ht : Int) + 4 + 14 * (jd tl tr : Int)
set_option maxHeartbeats 32000000 in
set_option maxRecDepth 100000 in
theorem joinS_any (I : AImpl) {p : Value} {A : Ar} {rd : Int} {F : Nat → Prop} {held : Nat → Nat} {L R : Nat} {tl tr : Tr} {ll lr : List En} (e : En) (w : World) (hI : I.Is w p A rd F) (hv : A.Inv [] held) (hm : ∀ j, held j ≤ 1048200) (hL : TreeAt A L tl ll) (hR : TreeAt A R tr lr) (hwl : WfL ll) (hwr : WfL lr) (h0 : 0 ≤ rd) (h1 : rd ≤ 1099511000000) (hk : i64R e.key) (hx : i64R e.val) :
    Calls Tryz.prog 127 #[p, .int .u32 (L : Int), .agg #[.int .i64 e.key, .int .i64 e.val], .int .u32 (R : Int)] w (Mut I p F (JoinS A rd held L R tl tr ll lr e) w) := by
  obtain ⟨pa, rfl⟩ := I.ptr hI
  have hs0 := (Ins.start hI).box #[Value.int .i64 e.key, .int .i64 e.val] 69
  have HV := Lib.hid hv
  have HM := Lib.hid hm
  have HL := Lib.hid hL
  have HR := Lib.hid hR
  have HW : Hid (WfL ll ∧ WfL lr ∧ i64R e.key ∧ i64R e.val) := ⟨hwl, hwr, hk, hx⟩
  have HRD : Hid (0 ≤ rd ∧ rd ≤ 1099511000000) := ⟨h0, h1⟩
  have hn := hL.few
  have ht1 := hL.ht (by omega)
  have hm' := hR.few
  have ht2 := hR.ht (by omega)
  have x1 := xh_up (m := ll.length) (n := ll.length + lr.length + 1) (by omega) (by omega)
  have x2 := xh_up (m := lr.length) (n := ll.length + lr.length + 1) (by omega) (by omega)
  have HN : Hid (ll.length ≤ 65536 ∧ lr.length ≤ 65536) := ⟨hn, hm'⟩
  have HJ : Hid (jd tl tr ≤ xh (ll.length + lr.length + 1)) := by
    have := jd_xh hL.bal hR.bal (by rw [hL.size, hR.size]; omega)
    rw [hL.size, hR.size] at this
    exact this
  have HB : Hid ((tl.ht : Int) + (tr.ht : Int) + 2 + 14 * (jd tl tr : Int) + 2 ≤ joinBd ll.length lr.length ∧ 0 ≤ (tl.ht : Int) ∧ 0 ≤ (tr.ht : Int) ∧ (tl.ht : Int) ≤ 1000 ∧ (tr.ht : Int) ≤ 1000 ∧ (jd tl tr : Int) ≤ 100 ∧ joinI (ll.length : Int) (lr.length : Int) = 4 * ((xh (ll.length + lr.length + 1) : Int) + 2)) := by
    have h1 := HJ.out
    have h2 := (xh_spec (n := ll.length + lr.length + 1) (by omega)).2.1
    refine ⟨?_, ?_, ?_, ?_, ?_, by omega, joinJ hn hm'⟩ <;> (try unfold joinBd) <;> omega
  have HZ : Hid (A.sz L = (ll.length : Int) ∧ A.sz R = (lr.length : Int) ∧ A.Idx L ∧ A.Idx R ∧ L < 4294967296 ∧ R < 4294967296) := ⟨hL.at_.sz hL.agg, hR.at_.sz hL.agg, hL.idx', hR.idx', hL.idx, hR.idx⟩
  have hlt := allLtJ hL.up e.key
  have hgt := allGtJ hR.up e.key
  obtain ⟨ol, hol⟩ : ∃ o, ll.getLast? = o := ⟨_, rfl⟩
  obtain ⟨og, hog⟩ : ∃ o, lr.head? = o := ⟨_, rfl⟩
  rw [hol] at hlt
  rw [hog] at hgt
  have HOL := Lib.hid hol
  have HOG := Lib.hid hog
  have HLT := Lib.hid hlt
  have HGT := Lib.hid hgt
  clear hI hv hm hL hR hwl hwr h0 h1 hk hx hn hm' ht1 ht2 hlt hgt hol hog x1 x2
  go_enter Tryz.func127, Tryz.ntmps127
  go_upto_region 1 with fail
  generalize w.alloc (Obj.cells #[Value.int .i64 e.key, .int .i64 e.val] 69) = w1 at hs0 ⊢
  generalize w.heap.size = ge at hs0 ⊢
  have HS0 := Lib.hid hs0
  clear hs0
  go_wp2_with fail
  refine (HS0.out.call fun F1 hI1 => lastH_any I (tl.ht : Int) w1 hI1 HL.out HRD.out.1 (by have := HRD.out; omega) (Int.le_refl _) (fun y hy => (HW.out.1 y hy).1)).mono ?_
  rintro en w2 ⟨rfl, rd1, hs, r1, r2⟩
  rw [HOL.out]
  have HR1 : Hid (rd ≤ rd1 ∧ rd1 ≤ rd + (tl.ht : Int)) := ⟨r1, r2⟩
  unfold enR enA
  have hs1 := hs.box #[Value.int .i64 (ol.elim 0 (·.key)), .int .i64 (ol.elim 0 (·.val))] 69
  clear hs HS0 r1 r2
  go_upto_region 2 with fail
  generalize w2.alloc (Obj.cells #[Value.int .i64 (ol.elim 0 (·.key)), .int .i64 (ol.elim 0 (·.val))] 69) = w3 at hs1 ⊢
  generalize w2.heap.size = ga at hs1 ⊢
  have HS1 := Lib.hid hs1
  clear hs1
  go_wp2_with fail
  refine (HS1.out.call fun F1 hI1 => firstH_any I (tr.ht : Int) w3 hI1 HR.out (by have := HRD.out; have := HR1.out; omega) (by have := HRD.out; have := HR1.out; have := HB.out; omega) (Int.le_refl _) (fun y hy => (HW.out.2.1 y hy).1)).mono ?_
  rintro en w4 ⟨rfl, rd2, hs, r1, r2⟩
  rw [HOG.out]
  have HR2 : Hid (rd ≤ rd2 ∧ rd2 ≤ rd + (tl.ht : Int) + (tr.ht : Int)) := ⟨by have := HR1.out; omega, by have := HR1.out; omega⟩
  have hs2 := hs.box #[Value.int .i64 (og.elim 0 (·.key)), .int .i64 (og.elim 0 (·.val))] 69
  clear hs HS1 r1 r2
  unfold enR enA
  go_upto_region 3 with fail
  generalize w4.alloc (Obj.cells #[Value.int .i64 (og.elim 0 (·.key)), .int .i64 (og.elim 0 (·.val))] 69) = w5 at hs2 ⊢
  generalize w4.heap.size = gb at hs2 ⊢
  have HS2 := Lib.hid hs2
  clear hs2
  obtain ⟨y0, y1⟩ := two_ofE (HS2.out.boxes (ge, Obj.cells #[Value.int .i64 e.key, .int .i64 e.val] 69 (0, 0)) (by simp)).2
  obtain ⟨z0, z1⟩ := two_ofE (HS2.out.boxes (gb, Obj.cells #[Value.int .i64 (og.elim 0 (·.key)), .int .i64 (og.elim 0 (·.val))] 69 (0, 0)) (by simp)).2
  obtain ⟨u0, u1⟩ := two_ofE (HS2.out.boxes (ga, Obj.cells #[Value.int .i64 (ol.elim 0 (·.key)), .int .i64 (ol.elim 0 (·.val))] 69 (0, 0)) (by simp)).2
  obtain ⟨KL, hKL⟩ : ∃ K, ol.elim (0 : Int) (·.key) = K := ⟨_, rfl⟩
  obtain ⟨KG, hKG⟩ : ∃ K, og.elim (0 : Int) (·.key) = K := ⟨_, rfl⟩
  obtain ⟨BL, hBL⟩ : ∃ K, ol.isSome = K := ⟨_, rfl⟩
  obtain ⟨BG, hBG⟩ : ∃ K, og.isSome = K := ⟨_, rfl⟩
  rw [hKL] at u0
  rw [hKG] at z0
  rw [hBL, hBG]
  have HLTB : Hid (AllLt ll e.key ↔ (BL = true → KL < e.key)) := by
    have h := HLT.out
    refine h.trans ?_
    cases ol with
    | none => simp at hBL; subst hBL; simp
    | some x => simp at hBL hKL; subst hBL hKL; simp
  have HGTB : Hid (AllGt lr e.key ↔ (BG = true → e.key < KG)) := by
    have h := HGT.out
    refine h.trans ?_
    cases og with
    | none => simp at hBG; subst hBG; simp
    | some x => simp at hBG hKG; subst hBG hKG; simp
  clear hKL hKG hBL hBG
  have HEND := Lib.hid HS2.out.ends
  have hcase : (BL = true ∧ e.key ≤ KL) ∨ ((BL = true ∧ KL < e.key) ∧ (BG = true ∧ KG ≤ e.key)) ∨ (BL = false ∧ (BG = true ∧ KG ≤ e.key)) ∨ ((BL = true ∧ KL < e.key) ∧ (BG = true ∧ e.key < KG)) ∨ ((BL = true ∧ KL < e.key) ∧ BG = false) ∨ (BL = false ∧ (BG = true ∧ e.key < KG)) ∨ (BL = false ∧ BG = false) := by
    cases BL <;> cases BG <;> simp <;> omega
  have HBAD : Hid (¬ (AllLt ll e.key ∧ AllGt lr e.key) → ∀ rdx, rd ≤ rdx → rdx ≤ rd + (tl.ht : Int) + (tr.ht : Int) → JoinS A rd held L R tl tr ll lr e (.returned (.tuple #[.int .u32 0, .int .i64 7])) A rdx) := fun hn rdx h1 h2 => ⟨⟨h1, by have := HB.out; omega, .inl ⟨hn, rfl, rfl⟩⟩, by omega, by omega⟩
  have HRB : Hid (rd ≤ rd2 ∧ rd2 ≤ rd + (tl.ht : Int) + (tr.ht : Int)) := HR2.out
  rcases hcase with ⟨rfl, hq⟩ | ⟨⟨rfl, hq⟩, rfl, hq2⟩ | ⟨rfl, rfl, hq2⟩ | hgood
  · have HQ : Hid (¬ (AllLt ll e.key ∧ AllGt lr e.key)) := fun h => by have := (HLTB.out.1 h.1) rfl; omega
    have d1 : decide (e.key ≤ KL) = true := decide_eq_true hq
    go_wp2_with fail
    go_ret2
    obtain ⟨F', hal, hI⟩ := HEND.out
    exact ⟨F', A, rd2, hal, hI, HBAD.out HQ.out rd2 HRB.out.1 HRB.out.2⟩
  · have HQ : Hid (¬ (AllLt ll e.key ∧ AllGt lr e.key)) := fun h => by have := (HGTB.out.1 h.2) rfl; omega
    have d1 : decide (e.key ≤ KL) = false := decide_eq_false (by omega)
    have d2 : decide (KG ≤ e.key) = true := decide_eq_true hq2
    have d3 : ¬ e.key ≤ KL := by omega
    go_wp2_with fail
    go_ret2
    obtain ⟨F', hal, hI⟩ := HEND.out
    exact ⟨F', A, rd2, hal, hI, HBAD.out HQ.out rd2 HRB.out.1 HRB.out.2⟩
  · have HQ : Hid (¬ (AllLt ll e.key ∧ AllGt lr e.key)) := fun h => by have := (HGTB.out.1 h.2) rfl; omega
    have d2 : decide (KG ≤ e.key) = true := decide_eq_true hq2
    go_wp2_with fail
    go_ret2
    obtain ⟨F', hal, hI⟩ := HEND.out
    exact ⟨F', A, rd2, hal, hI, HBAD.out HQ.out rd2 HRB.out.1 HRB.out.2⟩
  have HOK : Hid (AllLt ll e.key ∧ AllGt lr e.key) := by
    refine ⟨HLTB.out.2 fun h => ?_, HGTB.out.2 fun h => ?_⟩
    · rcases hgood with ⟨⟨q1, q2⟩, q3⟩ | ⟨⟨q1, q2⟩, q3⟩ | ⟨q1, q3⟩ | ⟨q1, q3⟩
      · exact q2
      · exact q2
      · rw [q1] at h; cases h
      · rw [q1] at h; cases h
    · rcases hgood with ⟨q3, q1, q2⟩ | ⟨q3, q1⟩ | ⟨q3, q1, q2⟩ | ⟨q3, q1⟩
      · exact q2
      · rw [q1] at h; cases h
      · exact q2
      · rw [q1] at h; cases h
  have HGL : Hid (ll.length + lr.length + 1 ≤ 2147483647) := by have := HN.out; show _ ≤ _; omega
  clear HBAD HLTB HGTB HEND
  rcases hgood with ⟨⟨rfl, hq⟩, rfl, hq2⟩ | ⟨⟨rfl, hq⟩, rfl⟩ | ⟨rfl, rfl, hq2⟩ | ⟨rfl, rfl⟩
  case' inl => have d1 : decide (e.key ≤ KL) = false := decide_eq_false (by omega)
  case' inl => have d3 : ¬ e.key ≤ KL := by omega
  case' inl => have d2 : decide (KG ≤ e.key) = false := decide_eq_false (by omega)
  case' inl => have d4 : ¬ KG ≤ e.key := by omega
  case' inr.inl => have d1 : decide (e.key ≤ KL) = false := decide_eq_false (by omega)
  case' inr.inl => have d3 : ¬ e.key ≤ KL := by omega
  case' inr.inr.inl => have d2 : decide (KG ≤ e.key) = false := decide_eq_false (by omega)
  case' inr.inr.inl => have d4 : ¬ KG ≤ e.key := by omega
  all_goals
    go_wp2_with fail
    refine HS2.out.free.mono ?_
    rintro en w6 ⟨rfl, hs6⟩
    have HS6 := Lib.hid hs6
    clear hs6
    go_wp2_with fail
    refine (HS6.out.sz (by have := HRD.out; have := HR2.out; omega) (by have := HRD.out; have := HR2.out; have := HB.out; omega) HZ.out.2.2.2.2.1 HZ.out.2.2.1 HV.out.ok).mono ?_
    rintro en w7 ⟨rfl, hs7⟩
    rw [HZ.out.1]
    have HS7 := Lib.hid hs7
    clear hs7
    go_wp2_with fail
    refine (HS7.out.sz (by have := HRD.out; have := HR2.out; (repeat' split) <;> omega) (by have := HRD.out; have := HR2.out; have := HB.out; (repeat' split) <;> omega) HZ.out.2.2.2.2.2 HZ.out.2.2.2.1 HV.out.ok).mono ?_
    rintro en w8 ⟨rfl, hs8⟩
    rw [HZ.out.2.1]
    obtain ⟨rd3, hrd3⟩ : ∃ r, (rd2 + if L = 0 then 0 else 1) + (if R = 0 then 0 else 1) = r := ⟨_, rfl⟩
    have HR3 : Hid (rd ≤ rd3 ∧ rd3 ≤ rd + (tl.ht : Int) + (tr.ht : Int) + 2) := by
      have := HR2.out
      show rd ≤ rd3 ∧ rd3 ≤ rd + (tl.ht : Int) + (tr.ht : Int) + 2
      rw [← hrd3]
      (repeat' split) <;> omega
    rw [hrd3] at hs8
    have HS8 := Lib.hid hs8
    clear hs8 hrd3
    go_wp2_with fail
    refine (rsJoin_any (ll.length : Int) (lr.length : Int) w8 (by have := HN.out; unfold in64; omega) (by have := HN.out; unfold in64; omega)).mono ?_
    rintro en w9 ⟨rfl, hb9⟩
    have HS9 := Lib.hid (HS8.out.calm hb9)
    clear hb9
    by_cases hfr : (A.σ.free.length : Int) < joinI (ll.length : Int) (lr.length : Int)
    · have d9 : decide ((A.σ.free.length : Int) < joinI (ll.length : Int) (lr.length : Int)) = true := decide_eq_true hfr
      have HQ : Hid (JoinS A rd held L R tl tr ll lr e (.returned (.tuple #[.int .u32 0, .int .i64 2])) A rd3) := ⟨⟨HR3.out.1, by have := HR3.out; have := HB.out; omega, .inr (.inl ⟨HOK.out, hfr, rfl, rfl⟩)⟩, by omega, by have := HR3.out; omega⟩
      have HE := Lib.hid HS9.out.ends
      go_wp2_with fail
      go_ret2
      obtain ⟨F', hal, hI⟩ := HE.out
      exact ⟨F', A, rd3, hal, hI, HQ.out⟩
    have d9 : decide ((A.σ.free.length : Int) < joinI (ll.length : Int) (lr.length : Int)) = false := decide_eq_false hfr
    have HFR : Hid (joinI (ll.length : Int) (lr.length : Int) ≤ (A.σ.free.length : Int)) := by show _ ≤ _; omega
    obtain ⟨v0, v1⟩ := two_ofE (HS9.out.boxes (ge, Obj.cells #[Value.int .i64 e.key, .int .i64 e.val] 69 (0, 0)) (by simp)).2
    go_wp2_with fail
    refine (HS9.out.mut fun F1 hI1 => link_all I (rotImpl I) numJ _ e w9 ⟨hI1, HV.out, HL.out.agg, fun j => Nat.le_trans (HM.out j) (by decide), HL.out.at_, HR.out.at_, HW.out.1, HW.out.2.1, HW.out.2.2, HGL.out, by have := HRD.out; have := HR3.out; omega, by have := HRD.out; have := HR3.out; have := HB.out; omega, by have := HFR.out; have := HB.out; have := HJ.out; omega⟩ (Nat.lt_succ_self _)).mono ?_
    rintro en w10 ⟨B, rd10, ⟨q0, q1, j, t, rfl, q2, q3, q4, q5⟩, hs10⟩
    have HQ : Hid (JoinS A rd held L R tl tr ll lr e (.returned (.tuple #[.int .u32 (j : Int), .int .i64 0])) B rd10) :=
      ⟨⟨by have := HR3.out; omega, by have := HR3.out; have := HB.out; omega, .inr (.inr ⟨HOK.out, HFR.out, j, t, rfl, q2.got q3, fun hb => q5 (bal_wb hb)⟩)⟩, by omega, by have := HR3.out; omega⟩
    have HE := Lib.hid hs10.ends
    clear q0 q1 q2 q3 q4 q5 hs10
    go_wp2_with fail
    go_ret2
    obtain ⟨F', hal, hI⟩ := HE.out
    exact ⟨F', B, rd10, hal, hI, HQ.out⟩
theorem whole_lo {l : List En} (hu : Up l) {f : En} {k : Int} (hf : l.head? = some f) (h : k < f.key) : getE l k = none ∧ lowE l k = [] ∧ highE l k = l := by
  have hg : AllGt l k := (allGtJ hu k).2 fun x hx => by rw [hf] at hx; cases hx; exact h
  refine ⟨getE_none fun x hx => by have := hg x hx; omega, ?_, ?_⟩
  · unfold lowE; exact fil0 fun x hx => by have := hg x hx; simp; omega
  · unfold highE; exact fil1 fun x hx => by have := hg x hx; simp; omega
theorem whole_hi {l : List En} (hu : Up l) {g : En} {k : Int} (hg : l.getLast? = some g) (h : g.key < k) : getE l k = none ∧ lowE l k = l ∧ highE l k = [] := by
  have hl : AllLt l k := (allLtJ hu k).2 fun x hx => by rw [hg] at hx; cases hx; exact h
  refine ⟨getE_none fun x hx => by have := hl x hx; omega, ?_, ?_⟩
  · unfold lowE; exact fil1 fun x hx => by have := hl x hx; simp; omega
  · unfold highE; exact fil0 fun x hx => by have := hl x hx; simp; omega
theorem not_whole {l : List En} {f g : En} {k : Int} (hf : l.head? = some f) (hg : l.getLast? = some g) (h1 : f.key ≤ k) (h2 : k ≤ g.key) : ¬ wholeE l k := by
  rintro ⟨hn, h⟩
  have mf := List.mem_of_mem_head? hf
  have mg := List.mem_of_getLast? hg
  have hne : ∀ x ∈ l, x.key ≠ k := fun x hx e => by
    have := List.find?_eq_none.1 hn x hx
    simp [e] at this
  have n1 := hne f mf
  have n2 := hne g mg
  rcases h with h | h
  · have : f ∈ lowE l k := List.mem_filter.2 ⟨mf, by simp; omega⟩
    rw [h] at this
    cases this
  · have : g ∈ highE l k := List.mem_filter.2 ⟨mg, by simp; omega⟩
    rw [h] at this
    cases this
set_option maxHeartbeats 32000000 in
set_option maxRecDepth 100000 in
theorem splitS_any (I : AImpl) {p : Value} {A : Ar} {rd : Int} {F : Nat → Prop} {held : Nat → Nat} {i : Nat} {t : Tr} {l : List En} (k : Int) (w : World) (hI : I.Is w p A rd F) (hv : A.Inv [] held) (hm : ∀ j, held j ≤ 1048200) (hT : TreeAt A i t l) (hw : WfL l) (h0 : 0 ≤ rd) (h1 : rd ≤ 1099511000000) (hk : i64R k) :
    Calls Tryz.prog 126 #[p, .int .u32 (i : Int), .int .i64 k] w (Mut I p F (SplitQ A rd held i l k) w) := by
  obtain ⟨pa, rfl⟩ := I.ptr hI
  have HS0 := Lib.hid (Ins.start hI)
  have HV := Lib.hid hv
  have HM := Lib.hid hm
  have HT := Lib.hid hT
  have HW : Hid (WfL l ∧ i64R k) := ⟨hw, hk⟩
  have HRD : Hid (0 ≤ rd ∧ rd ≤ 1099511000000) := ⟨h0, h1⟩
  have hn := hT.few
  have HN : Hid (l.length ≤ 65536) := hn
  have HB : Hid (2 * mostI l.length + 1 + 45 * (xh l.length : Int) ≤ splitBd l.length ∧ 0 ≤ mostI l.length ∧ mostI l.length ≤ 1000 ∧ (xh l.length : Int) ≤ 100 ∧ splitI (l.length : Int) = 12 * ((xh l.length : Int) + 2) ∧ t.ht ≤ xh l.length ∧ xh (lowE l k).length ≤ xh l.length ∧ xh (highE l k).length ≤ xh l.length) := by
    have h2 := (xh_spec (n := l.length) (by omega)).2.1
    refine ⟨?_, ?_, ?_, by omega, splitJ hn, hT.ht (by omega), xh_up (low_len l k) (by omega), xh_up (high_len l k) (by omega)⟩ <;> (try unfold splitBd) <;> (try unfold mostI) <;> omega
  have HZ : Hid (A.sz i = (l.length : Int) ∧ A.Idx i ∧ i < 4294967296 ∧ A.cnt i < 4611686018427387904) := ⟨hT.at_.sz hT.agg, hT.idx', hT.idx, cnt_few hv (fun j => Nat.le_trans (hm j) (by decide)) i⟩
  obtain ⟨ol, hol⟩ : ∃ o, l.getLast? = o := ⟨_, rfl⟩
  obtain ⟨og, hog⟩ : ∃ o, l.head? = o := ⟨_, rfl⟩
  have HOL := Lib.hid hol
  have HOG := Lib.hid hog
  clear hI hv hm hT hw h0 h1 hk hn hol hog
  go_enter Tryz.func126, Tryz.ntmps126
  go_wp2_with fail
  refine (HS0.out.call fun F1 hI1 => (lkImpl I).first w hI1 HT.out HRD.out.1 (by have := HRD.out; omega) (fun y hy => (HW.out.1 y hy).1)).mono ?_
  rintro en w2 ⟨rfl, rd1, hs, r1, r2⟩
  rw [HOG.out]
  have HR1 : Hid (rd ≤ rd1 ∧ rd1 ≤ rd + mostI l.length) := ⟨r1, r2⟩
  unfold enR enA
  have hs1 := hs.box #[Value.int .i64 (og.elim 0 (·.key)), .int .i64 (og.elim 0 (·.val))] 69
  clear hs HS0 r1 r2
  go_upto_region 2 with fail
  generalize w2.alloc (Obj.cells #[Value.int .i64 (og.elim 0 (·.key)), .int .i64 (og.elim 0 (·.val))] 69) = w3 at hs1 ⊢
  generalize w2.heap.size = ga at hs1 ⊢
  have HS1 := Lib.hid hs1
  clear hs1
  go_wp2_with fail
  refine (HS1.out.call fun F1 hI1 => (lkImpl I).last w3 hI1 HT.out (by have := HRD.out; have := HR1.out; omega) (by have := HRD.out; have := HR1.out; have := HB.out; omega) (fun y hy => (HW.out.1 y hy).1)).mono ?_
  rintro en w4 ⟨rfl, rd2, hs, r1, r2⟩
  rw [HOL.out]
  have HR2 : Hid (rd ≤ rd2 ∧ rd2 ≤ rd + 2 * mostI l.length) := ⟨by have := HR1.out; omega, by have := HR1.out; omega⟩
  have hs2 := hs.box #[Value.int .i64 (ol.elim 0 (·.key)), .int .i64 (ol.elim 0 (·.val))] 69
  clear hs HS1 r1 r2
  unfold enR enA
  go_upto_region 3 with fail
  generalize w4.alloc (Obj.cells #[Value.int .i64 (ol.elim 0 (·.key)), .int .i64 (ol.elim 0 (·.val))] 69) = w5 at hs2 ⊢
  generalize w4.heap.size = gb at hs2 ⊢
  have HS2 := Lib.hid hs2
  clear hs2
  cases og with
  | none =>
    have hl : l = [] := List.head?_eq_none_iff.1 HOG.out
    have HQ : Hid (SplitQ A rd held i l k (.returned (.tuple #[.int .u32 0, .int .i64 0, .bool false, .int .u32 0, .int .i64 0])) A rd2) := by
      subst hl
      obtain ⟨m1, m2, m3⟩ := (Mid.start HV.out HT.out.agg).two (x := 0) (y := 0) (.inl rfl) (.inl rfl)
      have e : A.ret 0 = A := if_pos rfl
      rw [e, e] at m1
      refine ⟨HR2.out.1, by have := HR2.out; have := HB.out; omega, .inl ⟨⟨rfl, .inl rfl⟩, 0, 0, .nil, .nil, rfl, m1.got2 (.nil A) (.nil A), fun h => absurd rfl h, fun h => absurd rfl h, rfl⟩⟩
    have HE := Lib.hid HS2.out.ends
    clear hl
    simp only [Option.isSome_none]
    go_wp2_with fail
    refine bodyPost_ret (results_tmp5 rfl _ _ _) rfl ?_
    obtain ⟨F', hal, hI⟩ := HE.out
    exact ⟨F', A, rd2, hal, hI, HQ.out⟩
  | some f =>
  obtain ⟨g, rfl⟩ : ∃ g, ol = some g := by
    cases ol with
    | some g => exact ⟨g, rfl⟩
    | none =>
      have h1 : l = [] := List.getLast?_eq_none_iff.1 HOL.out
      have h2 := HOG.out
      rw [h1] at h2
      cases h2
  simp only [Option.isSome_some]
  obtain ⟨y0, y1⟩ := two_ofE (HS2.out.boxes (ga, Obj.cells #[Value.int .i64 f.key, .int .i64 f.val] 69 (0, 0)) (by simp)).2
  obtain ⟨z0, z1⟩ := two_ofE (HS2.out.boxes (gb, Obj.cells #[Value.int .i64 g.key, .int .i64 g.val] 69 (0, 0)) (by simp)).2
  by_cases hc1 : k < f.key
  · have d1 : decide (k < f.key) = true := decide_eq_true hc1
    have hwl := whole_lo HT.out.up HOG.out hc1
    have HQ : Hid (SplitQ A rd held i l k (.returned (.tuple #[.int .u32 0, .int .i64 0, .bool false, .int .u32 (i : Int), .int .i64 0])) (A.ret i) rd2) := by
      obtain ⟨m1, m2, m3⟩ := (Mid.start HV.out HT.out.agg).two (x := 0) (y := i) (.inl rfl) HZ.out.2.1
      have e : A.ret 0 = A := if_pos rfl
      rw [e] at m1 m2 m3
      refine ⟨HR2.out.1, by have := HR2.out; have := HB.out; omega, .inl ⟨⟨hwl.1, .inl hwl.2.1⟩, 0, i, .nil, t, rfl, ?_, fun h => absurd hwl.2.1 h, fun _ => rfl, by rw [m3]⟩⟩
      rw [hwl.2.1, hwl.2.2]
      exact m1.got2 (.nil _) (HT.out.at_.kept m2)
    clear hwl
    go_wp2_with fail
    refine (HS2.out.retain HZ.out.2.2.1 HZ.out.2.1 HZ.out.2.2.2).mono ?_
    rintro en w6 ⟨rfl, hs6⟩
    have HE := Lib.hid hs6.ends
    clear hs6 HS2 y0 y1 z0 z1
    go_wp2_with fail
    refine bodyPost_ret (results_tmp5 rfl _ _ _) rfl ?_
    obtain ⟨F', hal, hI⟩ := HE.out
    exact ⟨F', A.ret i, rd2, hal, hI, HQ.out⟩
  have d1 : decide (k < f.key) = false := decide_eq_false hc1
  by_cases hc2 : g.key < k
  · have d2 : decide (g.key < k) = true := decide_eq_true hc2
    have hwl := whole_hi HT.out.up HOL.out hc2
    have HQ : Hid (SplitQ A rd held i l k (.returned (.tuple #[.int .u32 (i : Int), .int .i64 0, .bool false, .int .u32 0, .int .i64 0])) (A.ret i) rd2) := by
      obtain ⟨m1, m2, m3⟩ := (Mid.start HV.out HT.out.agg).two (x := i) (y := 0) HZ.out.2.1 (.inl rfl)
      have e : (A.ret i).ret 0 = A.ret i := if_pos rfl
      rw [e] at m1 m2 m3
      refine ⟨HR2.out.1, by have := HR2.out; have := HB.out; omega, .inl ⟨⟨hwl.1, .inr hwl.2.2⟩, i, 0, t, .nil, rfl, ?_, fun _ => rfl, fun h => absurd hwl.2.2 h, by rw [m3]⟩⟩
      rw [hwl.2.1, hwl.2.2]
      exact m1.got2 (HT.out.at_.kept m2) (.nil _)
    clear hwl
    go_wp2_with fail
    refine (HS2.out.retain HZ.out.2.2.1 HZ.out.2.1 HZ.out.2.2.2).mono ?_
    rintro en w6 ⟨rfl, hs6⟩
    have HE := Lib.hid hs6.ends
    clear hs6 HS2 y0 y1 z0 z1
    go_wp2_with fail
    refine bodyPost_ret (results_tmp5 rfl _ _ _) rfl ?_
    obtain ⟨F', hal, hI⟩ := HE.out
    exact ⟨F', A.ret i, rd2, hal, hI, HQ.out⟩
  have d2 : decide (g.key < k) = false := decide_eq_false hc2
  have HNW : Hid (¬ wholeE l k) := not_whole HOG.out HOL.out (by omega) (by omega)
  go_wp2_with fail
  refine HS2.out.free.mono ?_
  rintro en w6 ⟨rfl, hs6⟩
  have HS6 := Lib.hid hs6
  clear hs6 HS2 y0 y1 z0 z1
  go_wp2_with fail
  refine (HS6.out.sz (by have := HRD.out; have := HR2.out; omega) (by have := HRD.out; have := HR2.out; have := HB.out; omega) HZ.out.2.2.1 HZ.out.2.1 HV.out.ok).mono ?_
  rintro en w7 ⟨rfl, hs7⟩
  rw [HZ.out.1]
  obtain ⟨rd3, hrd3⟩ : ∃ r, (rd2 + if i = 0 then 0 else 1) = r := ⟨_, rfl⟩
  have HR3 : Hid (rd ≤ rd3 ∧ rd3 ≤ rd + 2 * mostI l.length + 1) := by
    have := HR2.out
    show rd ≤ rd3 ∧ rd3 ≤ rd + 2 * mostI l.length + 1
    rw [← hrd3]
    split <;> omega
  rw [hrd3] at hs7
  have HS7 := Lib.hid hs7
  clear hs7 HS6 hrd3
  go_wp2_with fail
  refine (rsSplit_any (l.length : Int) w7 (by have := HN.out; unfold in64; omega)).mono ?_
  rintro en w8 ⟨rfl, hb8⟩
  have HS8 := Lib.hid (HS7.out.calm hb8)
  clear hb8 HS7
  by_cases hfr : (A.σ.free.length : Int) < splitI (l.length : Int)
  · have d9 : decide ((A.σ.free.length : Int) < splitI (l.length : Int)) = true := decide_eq_true hfr
    have HQ : Hid (SplitQ A rd held i l k (.returned (.tuple #[.int .u32 0, .int .i64 0, .bool false, .int .u32 0, .int .i64 2])) A rd3) := ⟨HR3.out.1, by have := HR3.out; have := HB.out; omega, .inr (.inl ⟨HNW.out, hfr, rfl, rfl⟩)⟩
    have HE := Lib.hid HS8.out.ends
    go_wp2_with fail
    refine bodyPost_ret (results_tmp5 rfl _ _ _) rfl ?_
    obtain ⟨F', hal, hI⟩ := HE.out
    exact ⟨F', A, rd3, hal, hI, HQ.out⟩
  have d9 : decide ((A.σ.free.length : Int) < splitI (l.length : Int)) = false := decide_eq_false hfr
  have HFR : Hid (splitI (l.length : Int) ≤ (A.σ.free.length : Int)) := by show _ ≤ _; omega
  go_wp2_with fail
  refine (HS8.out.mut fun F1 hI1 => cut_all I (rotImpl I) numJ t w8 ⟨hI1, HV.out, HT.out.agg, fun j => Nat.le_trans (HM.out j) (by decide), HT.out.at_, HT.out.up, HW.out.1, HW.out.2, by have := HN.out; omega, by have := HRD.out; have := HR3.out; omega, by have := HRD.out; have := HR3.out; have := HB.out; omega, by have := HFR.out; have := HB.out; omega⟩).mono ?_
  rintro en w10 ⟨B, rd10, ⟨q0, s, q1, q2, x, y, tx, ty, rfl, q3, q4, q5, q6⟩, hs10⟩
  obtain ⟨V, hV⟩ : ∃ V, (getE l k).elim (0 : Int) (·.val) = V := ⟨_, rfl⟩
  obtain ⟨D, hD⟩ : ∃ D, (getE l k).isSome = D := ⟨_, rfl⟩
  rw [hV, hD]
  have HQ : Hid (SplitQ A rd held i l k (.returned (.tuple #[.int .u32 (x : Int), .int .i64 V, .bool D, .int .u32 (y : Int), .int .i64 0])) B rd10) :=
    ⟨by have := HR3.out; omega, by have := HR3.out; have := HB.out; omega, .inr (.inr ⟨HNW.out, HFR.out, x, y, tx, ty, by rw [hV, hD], q3.got2 q4 q5⟩)⟩
  have hs11 := hs10.box #[Value.int .u32 (x : Int), .int .i64 V, .bool D, .int .u32 (y : Int)] 185
  clear hV hD q0 q1 q2 q3 q4 q5 q6 hs10 HS8
  go_upto_region 12 with fail
  generalize w10.alloc (Obj.cells #[Value.int .u32 (x : Int), .int .i64 V, .bool D, .int .u32 (y : Int)] 185) = w11 at hs11 ⊢
  generalize w10.heap.size = gp at hs11 ⊢
  obtain ⟨⟨p0, p1, p2, p3⟩, -⟩ := cells4_of (hs11.boxes _ (List.Mem.head _)).2
  have HE : Hid (∀ n, ∃ F', Alters F F' w (w11.drewN n) ∧ I.Is (w11.drewN n) (.pointer (some pa)) B rd10 F') := fun n => (hs11.calm (below_drewN (Below.refl _ _) n)).ends
  clear hs11
  go_quiet (fail)
  go_wp2_with fail
  refine bodyPost_ret (results_tmp5 rfl _ _ _) rfl ?_
  obtain ⟨F', hal, hI⟩ := HE.out _
  exact ⟨F', B, rd10, hal, hI, HQ.out⟩
theorem SplitQ.room {A B : Ar} {rd rd' : Int} {held : Nat → Nat} {i : Nat} {l : List En} {k : Int} {en : Ending} (h : SplitQ A rd held i l k en B rd') (hr : splitI (l.length : Int) ≤ (A.σ.free.length : Int)) :
    rd ≤ rd' ∧ rd' ≤ rd + splitBd l.length ∧ ∃ (x y : Nat) (tx ty : Tr), en = .returned (.tuple #[.int .u32 (x : Int), .int .i64 ((getE l k).elim 0 (·.val)), .bool (getE l k).isSome, .int .u32 (y : Int), .int .i64 0]) ∧ Got2 A held B x tx (lowE l k) y ty (highE l k) := by
  obtain ⟨h1, h2, h⟩ := h
  refine ⟨h1, h2, ?_⟩
  rcases h with ⟨hw, x, y, tx, ty, rfl, hg, -⟩ | ⟨-, q, -⟩ | ⟨-, -, x, y, tx, ty, rfl, hg⟩
  · exact ⟨x, y, tx, ty, by rw [hw.1]; rfl, hg⟩
  · omega
  · exact ⟨x, y, tx, ty, rfl, hg⟩
/-- a box among others: its cell n is written -/
theorem Ins.cellM {I : AImpl} {w wr : World} {F : Nat → Prop} {p : Value} {A : Ar} {rd : Int} {rs : List Row} {pre post : List (Nat × Obj)} {g n : Nat} {cs cs' : Array Value} {t : TypeId} (h : Ins I w F p A rd rs (pre ++ (g, Obj.cells cs t (0, 0)) :: post) wr) (x : Value) (hc : cs.setIfInBounds n x = cs') : Ins I w F p A rd rs (pre ++ (g, Obj.cells cs' t (0, 0)) :: post) (wr.setCell ⟨g, n, none⟩ x) :=
  ((h.perm List.perm_middle).cellO x hc).perm List.perm_middle.symm
set_option maxHeartbeats 16000000 in
set_option maxRecDepth 100000 in
theorem divS_any (I : AImpl) {w wr : World} {F : Nat → Prop} {p : Value} {A B : Ar} {rd : Int} {rs : List Row} {bs : List (Nat × Obj)} {held : Nat → Nat} {H : List Kt} {g : Nat} {bL bR : Bool} {pol : Int} {u x y : Nat} {X : Nd} {ty : Tr} {m : List En} (hs : Ins I w F p B rd rs ((g, Obj.cells (opC p bL bR pol (u + 1)) 91 (0, 0)) :: bs) wr)
    (hd : Hd A held B (⟨y, ty, m⟩ :: H)) (hm : ∀ j, held j ≤ 1048000) (hl : H.length ≤ 190) (hX : B.nd x = X) (hon : B.σ.on x = true) (hum : Up m) (hwm : WfL m) (hk : i64R X.key) (hu : u ≤ 65536) (h0 : 0 ≤ rd) (h1 : rd ≤ 1099510990000) (hro : splitI (m.length : Int) ≤ (B.σ.free.length : Int)) :
    Calls Tryz.prog 102 #[.pointer (some ⟨g, 0, none⟩), .int .u32 (x : Int), .int .u32 (y : Int)] wr (fun e w' => ∃ (C : Ar) (rd' : Int) (lo hi : Nat) (tlo thi : Tr), e = .returned (.tuple #[.agg #[Value.int .i64 X.key, .int .i64 X.val, .int .u32 (X.left : Int), .int .u32 (X.right : Int), .int .i64 X.size, .int .i64 X.sum, .int .i64 X.mn, .int .i64 X.mx], .agg (ptR lo ((getE m X.key).elim 0 (·.val)) (getE m X.key).isSome hi), .int .i64 0]) ∧
      Hd A held C (⟨hi, thi, highE m X.key⟩ :: ⟨lo, tlo, lowE m X.key⟩ :: H) ∧ rd ≤ rd' ∧ rd' ≤ rd + 1 + splitBd m.length ∧ Ins I w F p C rd' rs ((g, Obj.cells (opC p bL bR pol u) 91 (0, 0)) :: bs) w') := by
  obtain ⟨pa, rfl⟩ : ∃ pa, p = .pointer (some pa) := by
    obtain ⟨F1, f1, _⟩ := hs.mr.has
    exact I.ptr f1
  have hin : (Tryz.prog.info? 81).map (·.size) = some 8 := by kernel_rfl
  have HINF := Lib.hid hin
  have HUN : Hid _ := Lib.hid Tryz.underlying81
  have hin2 : (Tryz.prog.info? 144).map (·.size) = some 4 := by kernel_rfl
  have HINF2 := Lib.hid hin2
  have HUN2 : Hid _ := Lib.hid Tryz.underlying144
  have hy := hd.at_ ⟨y, ty, m⟩ (List.Mem.head _)
  have HT := Lib.hid (hd.tree hy hum)
  have HD := Lib.hid hd
  have HFEW : Hid (∀ j, plL held (kti (⟨y, ty, m⟩ :: H)) j ≤ 1048200) := hd.few hm (by simp; omega)
  have HI32 : Hid (x < 4294967296) := idx_lt32B hd.mid.inv (.inr hon)
  have HN : Hid (B.nd x = X ∧ B.σ.on x = true ∧ WfL m ∧ i64R X.key) := ⟨hX, hon, hwm, hk⟩
  have HRD : Hid (0 ≤ rd ∧ rd ≤ 1099510990000) := ⟨h0, h1⟩
  have HRO := Lib.hid hro
  have HU := Lib.hid hu
  have hs0 := (hs.box #[Value.int .i64 0, .int .i64 0, .int .u32 0, .int .u32 0, .int .i64 0, .int .i64 0, .int .i64 0, .int .i64 0] 81).box #[Value.int .u32 0, .int .i64 0, .bool false, .int .u32 0] 144
  (try simp only [sz_al] at hs0)
  clear hs hd hm hl hX hon hum hwm hk hu h0 h1 hro hin hin2 hy
  go_enter Tryz.func102, Tryz.ntmps102
  go_upto_region 1 with fail
  (try simp only [sz_al])
  generalize (wr.alloc (Obj.cells #[Value.int .i64 0, .int .i64 0, .int .u32 0, .int .u32 0, .int .i64 0, .int .i64 0, .int .i64 0, .int .i64 0] 81)).alloc (Obj.cells #[Value.int .u32 0, .int .i64 0, .bool false, .int .u32 0] 144) = w1 at hs0 ⊢
  generalize wr.heap.size + 1 = q7 at hs0 ⊢
  generalize wr.heap.size = q6 at hs0 ⊢
  have hs1 := hs0.box #[Value.int .u32 0, .int .i64 0, .bool false, .int .u32 0] 144
  clear hs0
  go_upto_region 2 with fail
  generalize w1.alloc (Obj.cells #[Value.int .u32 0, .int .i64 0, .bool false, .int .u32 0] 144) = w2 at hs1 ⊢
  generalize w1.heap.size = q9 at hs1 ⊢
  have HS1 := Lib.hid (hs1.perm (List.perm_middle (l₁ := [_, _, _])))
  clear hs1
  go_wp2_with fail
  refine (readS_any I HS1.out HN.out.1 HN.out.2.1 HI32.out HRD.out.1 (by have := HRD.out; omega) HU.out).mono ?_
  rintro e w3 ⟨rfl, hs3⟩
  have hs4 := hs3.box #[Value.int .i64 X.key, .int .i64 X.val, .int .u32 (X.left : Int), .int .u32 (X.right : Int), .int .i64 X.size, .int .i64 X.sum, .int .i64 X.mn, .int .i64 X.mx] 81
  clear hs3 HS1
  unfold ndRow
  go_upto_region 3 with fail
  generalize w3.alloc (Obj.cells #[Value.int .i64 X.key, .int .i64 X.val, .int .u32 (X.left : Int), .int .u32 (X.right : Int), .int .i64 X.size, .int .i64 X.sum, .int .i64 X.mn, .int .i64 X.mx] 81) = w4 at hs4 ⊢
  generalize w3.heap.size = b at hs4 ⊢
  have HS4 := Lib.hid hs4
  clear hs4
  have HCE : Hid (∀ {wx : World} {C : Ar} {rdx : Int} {P : Array Value}, Ins I w F (.pointer (some pa)) C rdx rs ((b, Obj.cells #[Value.int .i64 X.key, .int .i64 X.val, .int .u32 (X.left : Int), .int .u32 (X.right : Int), .int .i64 X.size, .int .i64 X.sum, .int .i64 X.mn, .int .i64 X.mx] 81 (0, 0)) :: (g, Obj.cells (opC (.pointer (some pa)) bL bR pol u) 91 (0, 0)) :: (q9, Obj.cells P 144 (0, 0)) :: (q7, Obj.cells #[Value.int .u32 0, .int .i64 0, .bool false, .int .u32 0] 144 (0, 0)) :: (q6, Obj.cells #[Value.int .i64 0, .int .i64 0, .int .u32 0, .int .u32 0, .int .i64 0, .int .i64 0, .int .i64 0, .int .i64 0] 81 (0, 0)) :: bs) wx → wx.cell? ⟨g, 0, none⟩ = some (.pointer (some pa)) ∧ wx.cell? ⟨b, 0, none⟩ = some (.int .i64 X.key)) := fun {wx C rdx P} hx => by
    obtain ⟨hq, -⟩ := opC_of (hx.boxes _ (List.Mem.tail _ (List.Mem.head _))).2
    obtain ⟨hr, -⟩ := hx.row8 (g := b) (X := X) (by simp [ndRow])
    exact ⟨hq.1, hr.1⟩
  go_upto_region 4 with fail
  have hsd := HS4.out.calm (Below.refl _ _).drew
  clear HS4
  refine anyG_begin (S := (fun w' => w'.cell? ⟨g, 0, none⟩ = some (.pointer (some pa)) ∧ w'.cell? ⟨b, 0, none⟩ = some (.int .i64 X.key))) (z := 9999) (by kernel_rfl) (HCE.out hsd) (fun hHeld => ?_)
  refine anyG_tk (v := ?_) 0 21 rfl (by kernel_rfl) (Or.inl ⟨by rfl, ?_⟩) (by assumption) ?_
  rotate_left
  · intro w hSw; (try dsimp only at hSw); go_simp; try with_reducible rfl
  (try simp only [Act.put, put_s])
  refine anyG_tk (v := ?_) 1 22 rfl (by kernel_rfl) (Or.inl ⟨by rfl, ?_⟩) (by assumption) ?_
  rotate_left
  · intro w hSw; (try dsimp only at hSw); go_simp; try with_reducible rfl
  (try simp only [Act.put, put_s])
  refine anyG_tk (v := ?_) 2 23 rfl (by kernel_rfl) (Or.inl ⟨by rfl, ?_⟩) (by assumption) ?_
  rotate_left
  · intro w hSw; (try dsimp only at hSw); go_simp; try with_reducible rfl
  (try simp only [Act.put, put_s])
  refine anyG_tk (v := ?_) 3 24 rfl (by kernel_rfl) (Or.inl ⟨by rfl, ?_⟩) (by assumption) ?_
  rotate_left
  · intro w hSw; (try dsimp only at hSw); go_simp; try with_reducible rfl
  (try simp only [Act.put, put_s])
  refine anyG_tk (v := ?_) 4 25 rfl (by kernel_rfl) (Or.inl ⟨by rfl, ?_⟩) (by assumption) ?_
  rotate_left
  · intro w hSw; (try dsimp only at hSw); go_simp; try with_reducible rfl
  (try simp only [Act.put, put_s])
  refine anyG_tk (v := ?_) 5 26 rfl (by kernel_rfl) (Or.inl ⟨by rfl, ?_⟩) (by assumption) ?_
  rotate_left
  · intro w hSw; (try dsimp only at hSw); go_simp; try with_reducible rfl
  (try simp only [Act.put, put_s])
  refine anyG_tk (v := ?_) 6 27 rfl (by kernel_rfl) (Or.inl ⟨by rfl, ?_⟩) (by assumption) ?_
  rotate_left
  · intro w hSw; (try dsimp only at hSw); go_simp; try with_reducible rfl
  (try simp only [Act.put, put_s])
  refine anyG_one (k := 7) (o := _) (by kernel_rfl) rfl (fun KT hKT => ?_)
  go_simp
  go_at_call 126
  refine (hsd.mut fun F1 hI1 => splitS_any I X.key _ hI1 HD.out.mid.inv HFEW.out HT.out HN.out.2.2.1 (by have := HRD.out; omega) (by have := HRD.out; omega) HN.out.2.2.2).mono ?_
  rintro eA wA ⟨C, rdA, hq, hs0⟩
  obtain ⟨g0, g1, lo, hi, tlo, thi, rfl, hg⟩ := hq.room HRO.out
  have HR5 : Hid (rd ≤ rdA ∧ rdA ≤ rd + 1 + splitBd m.length) := ⟨by omega, by omega⟩
  have HG := Lib.hid (HD.out.got2 hg)
  obtain ⟨V, hV⟩ : ∃ V, (getE m X.key).elim (0 : Int) (·.val) = V := ⟨_, rfl⟩
  obtain ⟨D, hD⟩ : ∃ D, (getE m X.key).isSome = D := ⟨_, rfl⟩
  rw [hV, hD]
  have HVD : Hid ((getE m X.key).elim (0 : Int) (·.val) = V ∧ (getE m X.key).isSome = D) := ⟨hV, hD⟩
  clear hq g0 g1 hg hV hD
  try go_wp2_with fail
  refine hKT.out _ _ (HCE.out hs0) (fun hHeld => ?_)
  clear hKT KT
  (try simp only [Act.put, put_s])
  refine anyG_tk (v := ?_) 8 20 rfl (by kernel_rfl) (Or.inl ⟨by rfl, ?_⟩) (by assumption) ?_
  rotate_left
  · intro w hSw; (try dsimp only at hSw); go_simp; try with_reducible rfl
  (try simp only [Act.put, put_s])
  refine anyG_tk (v := ?_) 9 29 rfl (by kernel_rfl) (Or.inl ⟨by rfl, ?_⟩) (by assumption) ?_
  rotate_left
  · intro w hSw; (try dsimp only at hSw); go_simp; try with_reducible rfl
  (try simp only [Act.put, put_s])
  refine anyG_tk (v := ?_) 10 30 rfl (by kernel_rfl) (Or.inl ⟨by rfl, ?_⟩) (by assumption) ?_
  rotate_left
  · intro w hSw; (try dsimp only at hSw); go_simp; try with_reducible rfl
  (try simp only [Act.put, put_s])
  refine anyG_tk (v := ?_) 11 31 rfl (by kernel_rfl) (Or.inl ⟨by rfl, ?_⟩) (by assumption) ?_
  rotate_left
  · intro w hSw; (try dsimp only at hSw); go_simp; try with_reducible rfl
  (try simp only [Act.put, put_s])
  refine anyG_tk (v := ?_) 12 32 rfl (by kernel_rfl) (Or.inl ⟨by rfl, ?_⟩) (by assumption) ?_
  rotate_left
  · intro w hSw; (try dsimp only at hSw); go_simp; try with_reducible rfl
  (try simp only [Act.put, put_s])
  refine anyG_tk (v := ?_) 13 33 rfl (by kernel_rfl) (Or.inl ⟨by rfl, ?_⟩) (by assumption) ?_
  rotate_left
  · intro w hSw; (try dsimp only at hSw); go_simp; try with_reducible rfl
  (try simp only [Act.put, put_s])
  refine anyG_tk (v := ?_) 14 34 rfl (by kernel_rfl) (Or.inl ⟨by rfl, ?_⟩) (by assumption) ?_
  rotate_left
  · intro w hSw; (try dsimp only at hSw); go_simp; try with_reducible rfl
  (try simp only [Act.put, put_s])
  refine anyG_one (k := 15) (o := _) (by kernel_rfl) rfl (fun KT hKT => ?_)
  obtain ⟨⟨y0, y1, y2, y3⟩, f0, f1, f2, f3⟩ := cells4_of (hs0.boxes _ (List.Mem.tail _ (List.Mem.tail _ (List.Mem.head _)))).2
  go_simp
  have hs1 := Ins.cellM (pre := [_, _]) (n := 0) hs0 (.int .u32 (lo : Int)) (cs' := #[Value.int .u32 (lo : Int), .int .i64 0, .bool false, .int .u32 0]) rfl
  clear y0 y1 y2 y3 f0 f1 f2 f3
  try go_wp2_with fail
  refine hKT.out _ _ (HCE.out hs1) (fun hHeld => ?_)
  clear hKT KT
  (try simp only [Act.put, put_s])
  refine anyG_tk (v := ?_) 16 35 rfl (by kernel_rfl) (Or.inl ⟨by rfl, ?_⟩) (by assumption) ?_
  rotate_left
  · intro w hSw; (try dsimp only at hSw); go_simp; try with_reducible rfl
  (try simp only [Act.put, put_s])
  refine anyG_one (k := 17) (o := _) (by kernel_rfl) rfl (fun KT hKT => ?_)
  obtain ⟨⟨y0, y1, y2, y3⟩, f0, f1, f2, f3⟩ := cells4_of (hs1.boxes _ (List.Mem.tail _ (List.Mem.tail _ (List.Mem.head _)))).2
  go_simp
  have hs2 := Ins.cellM (pre := [_, _]) (n := 1) hs1 (.int .i64 V) (cs' := #[Value.int .u32 (lo : Int), .int .i64 V, .bool false, .int .u32 0]) rfl
  clear y0 y1 y2 y3 f0 f1 f2 f3
  try go_wp2_with fail
  refine hKT.out _ _ (HCE.out hs2) (fun hHeld => ?_)
  clear hKT KT
  (try simp only [Act.put, put_s])
  refine anyG_tk (v := ?_) 18 36 rfl (by kernel_rfl) (Or.inl ⟨by rfl, ?_⟩) (by assumption) ?_
  rotate_left
  · intro w hSw; (try dsimp only at hSw); go_simp; try with_reducible rfl
  (try simp only [Act.put, put_s])
  refine anyG_one (k := 19) (o := _) (by kernel_rfl) rfl (fun KT hKT => ?_)
  obtain ⟨⟨y0, y1, y2, y3⟩, f0, f1, f2, f3⟩ := cells4_of (hs2.boxes _ (List.Mem.tail _ (List.Mem.tail _ (List.Mem.head _)))).2
  go_simp
  have hs3 := Ins.cellM (pre := [_, _]) (n := 2) hs2 (.bool D) (cs' := #[Value.int .u32 (lo : Int), .int .i64 V, .bool D, .int .u32 0]) rfl
  clear y0 y1 y2 y3 f0 f1 f2 f3
  try go_wp2_with fail
  refine hKT.out _ _ (HCE.out hs3) (fun hHeld => ?_)
  clear hKT KT
  (try simp only [Act.put, put_s])
  refine anyG_tk (v := ?_) 20 37 rfl (by kernel_rfl) (Or.inl ⟨by rfl, ?_⟩) (by assumption) ?_
  rotate_left
  · intro w hSw; (try dsimp only at hSw); go_simp; try with_reducible rfl
  (try simp only [Act.put, put_s])
  refine anyG_one (k := 21) (o := _) (by kernel_rfl) rfl (fun KT hKT => ?_)
  obtain ⟨⟨y0, y1, y2, y3⟩, f0, f1, f2, f3⟩ := cells4_of (hs3.boxes _ (List.Mem.tail _ (List.Mem.tail _ (List.Mem.head _)))).2
  go_simp
  have hs4 := Ins.cellM (pre := [_, _]) (n := 3) hs3 (.int .u32 (hi : Int)) (cs' := #[Value.int .u32 (lo : Int), .int .i64 V, .bool D, .int .u32 (hi : Int)]) rfl
  clear y0 y1 y2 y3 f0 f1 f2 f3
  try go_wp2_with fail
  refine hKT.out _ _ (HCE.out hs4) (fun hHeld => ?_)
  clear hKT KT
  (try simp only [Act.put, put_s])
  refine anyG_tk (v := ?_) 22 11 rfl (by kernel_rfl) (Or.inl ⟨by rfl, ?_⟩) (by assumption) ?_
  rotate_left
  · intro w hSw; (try dsimp only at hSw); go_simp; try with_reducible rfl
  (try simp only [Act.put, put_s])
  refine anyG_done (by kernel_rfl) ?_ _
  clear hs0 hs1 hs2 hs3 hsd hHeld HCE
  generalize (((wA.setCell ⟨q9, 0, none⟩ (.int .u32 (lo : Int))).setCell ⟨q9, 1, none⟩ (.int .i64 V)).setCell ⟨q9, 2, none⟩ (.bool D)).setCell ⟨q9, 3, none⟩ (.int .u32 (hi : Int)) = w5 at hs4 ⊢
  have HS5 := Lib.hid hs4
  clear hs4
  have HV := Lib.hid (HG.out.perm (List.perm_middle (l₁ := [_, _]))).give
  obtain ⟨⟨c0, c1, c2, c3, c4⟩, -⟩ := opC_of (HS5.out.boxes _ (List.Mem.tail _ (List.Mem.head _))).2
  go_wp2_with fail
  refine (HS5.out.release HV.out.2.2.1 HV.out.2.1 HV.out.1).mono ?_
  rintro e w6 ⟨rfl, hs6⟩
  have HS6 := Lib.hid hs6
  clear hs6 HS5 c0 c1 c2 c3 c4
  have hbb := HS6.out.bb
  have hne1 : ¬ b = q6 := (List.pairwise_cons.1 hbb).1 _ (List.Mem.tail _ (List.Mem.tail _ (List.Mem.tail _ (List.Mem.head _))))
  have hne2 : ¬ b = q7 := (List.pairwise_cons.1 hbb).1 _ (List.Mem.tail _ (List.Mem.tail _ (List.Mem.head _)))
  have hbb2 := (List.pairwise_cons.1 (List.pairwise_cons.1 hbb).2).2
  have hne3 : ¬ q9 = q7 := (List.pairwise_cons.1 hbb2).1 _ (List.Mem.head _)
  have hne4 : ¬ q9 = q6 := (List.pairwise_cons.1 hbb2).1 _ (List.Mem.tail _ (List.Mem.head _))
  have hne5 : ¬ q7 = q6 := (List.pairwise_cons.1 (List.pairwise_cons.1 hbb2).2).1 _ (List.Mem.head _)
  have hne1' : ¬ q6 = b := fun e => hne1 e.symm
  have hne2' : ¬ q7 = b := fun e => hne2 e.symm
  have hne3' : ¬ q7 = q9 := fun e => hne3 e.symm
  have hne4' : ¬ q6 = q9 := fun e => hne4 e.symm
  have hne5' : ¬ q6 = q7 := fun e => hne5 e.symm
  clear hbb hbb2
  obtain ⟨⟨x0, x1, x2, x3, x4, x5, x6, x7⟩, -⟩ := HS6.out.row8 (g := b) (X := X) (by simp [ndRow])
  obtain ⟨⟨y0, y1, y2, y3, y4, y5, y6, y7⟩, f0, f1, f2, f3, f4, f5, f6, f7⟩ := HS6.out.row8 (g := q6) (X := Nd.zero) (by simp [ndRow, Nd.zero])
  obtain ⟨⟨p0, p1, p2, p3⟩, -⟩ := cells4_of (HS6.out.boxes _ (List.Mem.tail _ (List.Mem.tail _ (List.Mem.head _)))).2
  obtain ⟨⟨z0, z1, z2, z3⟩, k0, k1, k2, k3⟩ := cells4_of (HS6.out.boxes _ (List.Mem.tail _ (List.Mem.tail _ (List.Mem.tail _ (List.Mem.head _))))).2
  have HCE2 : Hid (∀ {wx : World} {P6 P7 : Array Value}, Ins I w F (.pointer (some pa)) (C.gone y) rdA rs ((b, Obj.cells #[Value.int .i64 X.key, .int .i64 X.val, .int .u32 (X.left : Int), .int .u32 (X.right : Int), .int .i64 X.size, .int .i64 X.sum, .int .i64 X.mn, .int .i64 X.mx] 81 (0, 0)) :: (g, Obj.cells (opC (.pointer (some pa)) bL bR pol u) 91 (0, 0)) :: (q9, Obj.cells #[Value.int .u32 (lo : Int), .int .i64 V, .bool D, .int .u32 (hi : Int)] 144 (0, 0)) :: (q7, Obj.cells P7 144 (0, 0)) :: (q6, Obj.cells P6 81 (0, 0)) :: bs) wx → (wx.cell? ⟨b, 0, none⟩ = some (.int .i64 X.key) ∧ wx.cell? ⟨b, 1, none⟩ = some (.int .i64 X.val) ∧ wx.cell? ⟨b, 2, none⟩ = some (.int .u32 (X.left : Int)) ∧ wx.cell? ⟨b, 3, none⟩ = some (.int .u32 (X.right : Int)) ∧ wx.cell? ⟨b, 4, none⟩ = some (.int .i64 X.size) ∧ wx.cell? ⟨b, 5, none⟩ = some (.int .i64 X.sum) ∧ wx.cell? ⟨b, 6, none⟩ = some (.int .i64 X.mn) ∧ wx.cell? ⟨b, 7, none⟩ = some (.int .i64 X.mx)) ∧ wx.cell? ⟨q9, 0, none⟩ = some (.int .u32 (lo : Int)) ∧ wx.cell? ⟨q9, 1, none⟩ = some (.int .i64 V) ∧ wx.cell? ⟨q9, 2, none⟩ = some (.bool D) ∧ wx.cell? ⟨q9, 3, none⟩ = some (.int .u32 (hi : Int))) := fun {wx P6 P7} hx => by
    obtain ⟨hr, -⟩ := hx.row8 (g := b) (X := X) (by simp [ndRow])
    obtain ⟨hq, -⟩ := cells4_of (hx.boxes _ (List.Mem.tail _ (List.Mem.tail _ (List.Mem.head _)))).2
    exact ⟨⟨hr.1, hr.2.1, hr.2.2.1, hr.2.2.2.1, hr.2.2.2.2.1, hr.2.2.2.2.2.1, hr.2.2.2.2.2.2.1, hr.2.2.2.2.2.2.2⟩, hq⟩
  clear x0 x1 x2 x3 x4 x5 x6 x7 p0 p1 p2 p3 y0 y1 y2 y3 y4 y5 y6 y7 f0 f1 f2 f3 f4 f5 f6 f7 z0 z1 z2 z3 k0 k1 k2 k3
  go_upto_region 6 with fail
  have hsd := HS6.out.calm (Below.refl _ _).drew
  clear HS6
  refine anyG_begin (S := (fun w' => (w'.cell? ⟨b, 0, none⟩ = some (.int .i64 X.key) ∧ w'.cell? ⟨b, 1, none⟩ = some (.int .i64 X.val) ∧ w'.cell? ⟨b, 2, none⟩ = some (.int .u32 (X.left : Int)) ∧ w'.cell? ⟨b, 3, none⟩ = some (.int .u32 (X.right : Int)) ∧ w'.cell? ⟨b, 4, none⟩ = some (.int .i64 X.size) ∧ w'.cell? ⟨b, 5, none⟩ = some (.int .i64 X.sum) ∧ w'.cell? ⟨b, 6, none⟩ = some (.int .i64 X.mn) ∧ w'.cell? ⟨b, 7, none⟩ = some (.int .i64 X.mx)) ∧ w'.cell? ⟨q9, 0, none⟩ = some (.int .u32 (lo : Int)) ∧ w'.cell? ⟨q9, 1, none⟩ = some (.int .i64 V) ∧ w'.cell? ⟨q9, 2, none⟩ = some (.bool D) ∧ w'.cell? ⟨q9, 3, none⟩ = some (.int .u32 (hi : Int)))) (z := 9999) (by kernel_rfl) (HCE2.out hsd) (fun hHeld => ?_)
  refine anyG_tk (v := ?_) 0 44 rfl (by kernel_rfl) (Or.inl ⟨by rfl, ?_⟩) (by assumption) ?_
  rotate_left
  · intro w hSw; (try dsimp only at hSw); go_simp; try with_reducible rfl
  (try simp only [Act.put, put_s])
  refine anyG_tk (v := ?_) 1 45 rfl (by kernel_rfl) (Or.inl ⟨by rfl, ?_⟩) (by assumption) ?_
  rotate_left
  · intro w hSw; (try dsimp only at hSw); go_simp; try with_reducible rfl
  (try simp only [Act.put, put_s])
  refine anyG_tk (v := ?_) 2 46 rfl (by kernel_rfl) (Or.inl ⟨by rfl, ?_⟩) (by assumption) ?_
  rotate_left
  · intro w hSw; (try dsimp only at hSw); go_simp; try with_reducible rfl
  (try simp only [Act.put, put_s])
  refine anyG_one (k := 3) (o := _) (by kernel_rfl) rfl (fun KT hKT => ?_)
  clear hHeld
  generalize w6.drew = w7 at hsd ⊢
  obtain ⟨⟨y0, y1, y2, y3, y4, y5, y6, y7⟩, f0, f1, f2, f3, f4, f5, f6, f7⟩ := hsd.row8 (g := q6) (X := Nd.zero) (by simp [ndRow, Nd.zero])
  go_simp
  have hsE := (Ins.put (g := q6) (X := Nd.zero) (Y := X) (hsd.perm (List.perm_middle (l₁ := [_, _, _, _])))).perm (List.perm_middle (l₁ := [_, _, _, _])).symm
  clear y0 y1 y2 y3 y4 y5 y6 y7 f0 f1 f2 f3 f4 f5 f6 f7
  unfold put8 at hsE
  generalize ((((((((w7.setCell ⟨q6, 0, none⟩ (.int .i64 X.key)).setCell ⟨q6, 1, none⟩ (.int .i64 X.val)).setCell ⟨q6, 2, none⟩ (.int .u32 (X.left : Int))).setCell ⟨q6, 3, none⟩ (.int .u32 (X.right : Int))).setCell ⟨q6, 4, none⟩ (.int .i64 X.size)).setCell ⟨q6, 5, none⟩ (.int .i64 X.sum)).setCell ⟨q6, 6, none⟩ (.int .i64 X.mn)).setCell ⟨q6, 7, none⟩ (.int .i64 X.mx)) = w8 at hsE ⊢
  try go_wp2_with fail
  refine hKT.out _ _ (HCE2.out hsE) (fun hHeld => ?_)
  clear hKT KT
  (try simp only [Act.put, put_s])
  refine anyG_one (k := 4) (o := _) (by kernel_rfl) rfl (fun KT hKT => ?_)
  clear hHeld
  obtain ⟨⟨z0, z1, z2, z3⟩, k0, k1, k2, k3⟩ := cells4_of (hsE.boxes _ (List.Mem.tail _ (List.Mem.tail _ (List.Mem.tail _ (List.Mem.head _))))).2
  go_simp
  have hsG := ((hsE.perm (List.perm_middle (l₁ := [_, _, _]))).putP lo V D hi).perm (List.perm_middle (l₁ := [_, _, _])).symm
  clear z0 z1 z2 z3 k0 k1 k2 k3
  unfold putP at hsG
  generalize ((((w8.setCell ⟨q7, 0, none⟩ (.int .u32 (lo : Int))).setCell ⟨q7, 1, none⟩ (.int .i64 V)).setCell ⟨q7, 2, none⟩ (.bool D)).setCell ⟨q7, 3, none⟩ (.int .u32 (hi : Int))) = w9 at hsG ⊢
  try go_wp2_with fail
  refine hKT.out _ _ (HCE2.out hsG) (fun hHeld => ?_)
  clear hKT KT
  (try simp only [Act.put, put_s])
  refine anyG_tk (v := ?_) 5 8 rfl (by kernel_rfl) (Or.inl ⟨by rfl, ?_⟩) (by assumption) ?_
  rotate_left
  · intro w hSw; (try dsimp only at hSw); go_simp; try with_reducible rfl
  (try simp only [Act.put, put_s])
  refine anyG_done (by kernel_rfl) ?_ _
  have HF : Hid (Ins I w F (.pointer (some pa)) (C.gone y) rdA rs ((g, Obj.cells (opC (.pointer (some pa)) bL bR pol u) 91 (0, 0)) :: bs) w9 ∧ w9.heap[q6]? = some (Obj.cells #[Value.int .i64 X.key, .int .i64 X.val, .int .u32 (X.left : Int), .int .u32 (X.right : Int), .int .i64 X.size, .int .i64 X.sum, .int .i64 X.mn, .int .i64 X.mx] 81 (0, 0)) ∧ w9.heap[q7]? = some (Obj.cells (ptR lo V D hi) 144 (0, 0))) :=
    ⟨hsG.less (List.Sublist.refl _) (.cons _ (.cons_cons _ (.cons _ (.cons _ (.cons _ (List.Sublist.refl _)))))), (hsG.boxes _ (List.Mem.tail _ (List.Mem.tail _ (List.Mem.tail _ (List.Mem.tail _ (List.Mem.head _)))))).2, (hsG.boxes _ (List.Mem.tail _ (List.Mem.tail _ (List.Mem.tail _ (List.Mem.head _))))).2⟩
  clear hsG hsE hsd hHeld HCE2
  go_wp2_with fail
  refine bodyPost_ret (results_2row_tmp rfl _ _ q6 q7 81 144 #[Value.int .i64 X.key, .int .i64 X.val, .int .u32 (X.left : Int), .int .u32 (X.right : Int), .int .i64 X.size, .int .i64 X.sum, .int .i64 X.mn, .int .i64 X.mx] (ptR lo V D hi) (0, 0) (0, 0) _ _ rfl HF.out.2.1 HUN.out rfl HINF.out rfl HF.out.2.2 HUN2.out rfl HINF2.out) rfl ?_
  exact ⟨C.gone y, rdA, lo, hi, tlo, thi, by rw [HVD.out.1, HVD.out.2]; rfl, HV.out.2.2.2, HR5.out.1, HR5.out.2, HF.out.1⟩
theorem CatQ.roomO {A B : Ar} {rd rd' : Int} {held : Nat → Nat} {L R : Nat} {ll lr : List En} {en : Ending} (h : CatQ A rd held L R ll lr en B rd') (hu : Up (ll ++ lr)) (hr : joinI (ll.length : Int) (lr.length : Int) ≤ (A.σ.free.length : Int)) :
    rd ≤ rd' ∧ rd' ≤ rd + joinBd ll.length lr.length ∧ ∃ (j : Nat) (t : Tr), en = .returned (.tuple #[.int .u32 (j : Int), .int .i64 0]) ∧ Got A held B j t (ll ++ lr) := by
  obtain ⟨h1, h2, h⟩ := h
  refine ⟨h1, h2, ?_⟩
  rcases h with ⟨-, t, rfl, hg, -⟩ | ⟨-, q, -⟩ | ⟨-, -, q, -⟩ | ⟨-, -, -, j, t, rfl, hg⟩
  · exact ⟨_, t, rfl, hg⟩
  · exact absurd hu q
  · omega
  · exact ⟨j, t, rfl, hg⟩
theorem JoinQ.room {A B : Ar} {rd rd' : Int} {held : Nat → Nat} {L R : Nat} {ll lr : List En} {e : En} {en : Ending} (h : JoinQ A rd held L R ll lr e en B rd') (hu : AllLt ll e.key ∧ AllGt lr e.key) (hr : joinI (ll.length : Int) (lr.length : Int) ≤ (A.σ.free.length : Int)) :
    rd ≤ rd' ∧ rd' ≤ rd + joinBd ll.length lr.length ∧ ∃ (j : Nat) (t : Tr), en = .returned (.tuple #[.int .u32 (j : Int), .int .i64 0]) ∧ Got A held B j t (ll ++ e :: lr) := by
  obtain ⟨h1, h2, h⟩ := h
  refine ⟨h1, h2, ?_⟩
  rcases h with ⟨q, -⟩ | ⟨-, q, -⟩ | ⟨-, -, j, t, rfl, hg, -⟩
  · exact absurd hu q
  · omega
  · exact ⟨j, t, rfl, hg⟩
/-- what assemble leaves -/
def AsmQ (A : Ar) (held : Nat → Nat) (H : List Kt) (bd rd : Int) (bL bR : Bool) (pol : Int) (l m : List En) (e : Ending) (C : Ar) (rd' : Int) : Prop :=
  ∃ (j : Nat) (t : Tr) (r : List En), e = .returned (.tuple #[.int .u32 (j : Int), .int .i64 0]) ∧ Hd A held C (⟨j, t, r⟩ :: H) ∧ OpL bL bR pol l m r ∧ rd ≤ rd' ∧ rd' ≤ rd + bd
/-- what becomes of the key itself -/
theorem key_val {bL bR : Bool} {pol : Int} {e : En} {g : Option En} (he : i64R e.val) (hg : ∀ y, g = some y → i64R y.val) {D : Bool} {V : Int} (hD : g.isSome = D) (hV : g.elim 0 (·.val) = V) :
    ∃ (val : Int) (K : Bool), (D = false → val = e.val ∧ K = bL) ∧ (D = true → val = mrgV pol e.val V ∧ K = polB pol) ∧ (K = true → opG bL bR pol (some e) g = some ⟨e.key, val⟩ ∧ i64R val) ∧ (K = false → opG bL bR pol (some e) g = none) := by
  cases g with
  | none =>
    subst hD
    refine ⟨e.val, bL, fun _ => ⟨rfl, rfl⟩, fun h => (by cases h), fun h => ?_, fun h => ?_⟩
    · subst h; exact ⟨rfl, he⟩
    · subst h; rfl
  | some y =>
    subst hD
    have hV' : y.val = V := hV
    subst hV'
    refine ⟨mrgV pol e.val y.val, polB pol, fun h => (by cases h), fun _ => ⟨rfl, rfl⟩, fun h => ?_, fun h => ?_⟩
    · unfold mrgV opG
      simp only [h, if_true]
      exact ⟨trivial, chooseV_in he (hg y rfl)⟩
    · unfold opG
      simp [h]
set_option maxHeartbeats 32000000 in
set_option maxRecDepth 100000 in
theorem asmS_any (I : AImpl) {w wr : World} {F : Nat → Prop} {p : Value} {A B : Ar} {rd : Int} {rs : List Row} {bs : List (Nat × Obj)} {held : Nat → Nat} {H : List Kt} {g : Nat} {bL bR : Bool} {pol : Int} {u x L R lo hi : Nat} {X : Nd} {tx txl txr tl tr : Tr} {ll lr r1 r2 m : List En} (hs : Ins I w F p B rd rs ((g, Obj.cells (opC p bL bR pol u) 91 (0, 0)) :: bs) wr)
    (hd : Hd A held B (⟨R, tr, r2⟩ :: ⟨L, tl, r1⟩ :: H)) (hm : ∀ j, held j ≤ 1048000) (hl : H.length ≤ 180) (hx : At B x tx (ll ++ ⟨X.key, X.val⟩ :: lr)) (hxl : At B X.left txl ll) (hxr : At B X.right txr lr) (hup : Up (ll ++ (⟨X.key, X.val⟩ : En) :: lr)) (hwf : WfL (ll ++ (⟨X.key, X.val⟩ : En) :: lr)) (hwm : WfL m)
    (h1 : OpL bL bR pol ll (lowE m X.key) r1) (h2 : OpL bL bR pol lr (highE m X.key) r2) (h0 : 0 ≤ rd) (h01 : rd ≤ 1099510990000) (hro : joinI (r1.length : Int) (r2.length : Int) ≤ (B.σ.free.length : Int)) :
    Calls Tryz.prog 104 #[.pointer (some ⟨g, 0, none⟩), .int .u32 (x : Int), .agg #[Value.int .i64 X.key, .int .i64 X.val, .int .u32 (X.left : Int), .int .u32 (X.right : Int), .int .i64 X.size, .int .i64 X.sum, .int .i64 X.mn, .int .i64 X.mx], .agg (ptR lo ((getE m X.key).elim 0 (·.val)) (getE m X.key).isSome hi), .int .u32 (L : Int), .int .u32 (R : Int)] wr (fun e w' => ∃ (C : Ar) (rd' : Int), AsmQ A held (⟨R, tr, r2⟩ :: ⟨L, tl, r1⟩ :: H) (joinBd r1.length r2.length) rd bL bR pol (ll ++ (⟨X.key, X.val⟩ : En) :: lr) m e C rd' ∧ Ins I w F p C rd' rs ((g, Obj.cells (opC p bL bR pol u) 91 (0, 0)) :: bs) w') := by
  obtain ⟨pa, rfl⟩ : ∃ pa, p = .pointer (some pa) := by
    obtain ⟨F1, f1, _⟩ := hs.mr.has
    exact I.ptr f1
  obtain ⟨V, hV⟩ : ∃ V, (getE m X.key).elim (0 : Int) (·.val) = V := ⟨_, rfl⟩
  obtain ⟨D, hD⟩ : ∃ D, (getE m X.key).isSome = D := ⟨_, rfl⟩
  have he : i64R X.key ∧ i64R X.val := hwf (⟨X.key, X.val⟩ : En) (by simp)
  obtain ⟨val, K, v1, v2, v3, v4⟩ := key_val (bL := bL) (bR := bR) (pol := pol) (e := ⟨X.key, X.val⟩) (g := getE m X.key) he.2 (fun y hy => (hwm y (List.mem_of_find?_eq_some hy)).2) hD hV
  obtain ⟨k1, k2, hop⟩ := op_node (o := opG bL bR pol (some ⟨X.key, X.val⟩) (getE m X.key)) hup h1 h2 rfl (fun f hf => by
    cases hK : K with
    | true =>
      have h3 := v3 hK
      rw [h3.1] at hf
      cases hf
      exact ⟨rfl, he.1, h3.2⟩
    | false => rw [v4 hK] at hf; cases hf)
  have hQ0 : K = false → ∀ (C : Ar) (rd' : Int) (j : Nat) (t : Tr), Hd A held C (⟨j, t, r1 ++ r2⟩ :: ⟨R, tr, r2⟩ :: ⟨L, tl, r1⟩ :: H) → rd ≤ rd' → rd' ≤ rd + joinBd r1.length r2.length → AsmQ A held (⟨R, tr, r2⟩ :: ⟨L, tl, r1⟩ :: H) (joinBd r1.length r2.length) rd bL bR pol (ll ++ (⟨X.key, X.val⟩ : En) :: lr) m (.returned (.tuple #[.int .u32 (j : Int), .int .i64 0])) C rd' := fun hK C rd' j t hh q1 q2 => by
    rw [v4 hK] at hop
    exact ⟨j, t, r1 ++ r2, rfl, hh, hop, q1, q2⟩
  have hQ1 : K = true → ∀ (C : Ar) (rd' : Int) (j : Nat) (t : Tr), Hd A held C (⟨j, t, r1 ++ ⟨X.key, val⟩ :: r2⟩ :: ⟨R, tr, r2⟩ :: ⟨L, tl, r1⟩ :: H) → rd ≤ rd' → rd' ≤ rd + joinBd r1.length r2.length → AsmQ A held (⟨R, tr, r2⟩ :: ⟨L, tl, r1⟩ :: H) (joinBd r1.length r2.length) rd bL bR pol (ll ++ (⟨X.key, X.val⟩ : En) :: lr) m (.returned (.tuple #[.int .u32 (j : Int), .int .i64 0])) C rd' := fun hK C rd' j t hh q1 q2 => by
    rw [(v3 hK).1] at hop
    exact ⟨j, t, _, rfl, hh, hop, q1, q2⟩
  have hsame : L = X.left → R = X.right → val = X.val → ll ++ (⟨X.key, X.val⟩ : En) :: lr = r1 ++ ⟨X.key, val⟩ :: r2 := fun e1 e2 e3 => by
    have a1 := hd.at_ ⟨L, tl, r1⟩ (by simp)
    have a2 := hd.at_ ⟨R, tr, r2⟩ (by simp)
    have b1 := (hxl.eqH (e1 ▸ a1)).2
    have b2 := (hxr.eqH (e2 ▸ a2)).2
    rw [b1, b2, e3]
  have hup2 : Up (r1 ++ r2) := List.pairwise_append.2 ⟨h1.up, h2.up, fun y hy z hz => by have := k1 y hy; have := k2 z hz; omega⟩
  have HQ0 := Lib.hid hQ0
  have HQ1 := Lib.hid hQ1
  have HSAME := Lib.hid hsame
  have HUP2 := Lib.hid hup2
  have HKK : Hid (AllLt r1 X.key ∧ AllGt r2 X.key) := ⟨k1, k2⟩
  have HT1 := Lib.hid (hd.tree (hd.at_ ⟨L, tl, r1⟩ (by simp)) h1.up)
  have HT2 := Lib.hid (hd.tree (hd.at_ ⟨R, tr, r2⟩ (by simp)) h2.up)
  have HWF : Hid (WfL r1 ∧ WfL r2 ∧ i64R X.key ∧ (K = true → i64R val)) := ⟨h1.wf, h2.wf, he.1, fun h => (v3 h).2⟩
  have HD := Lib.hid hd
  have HX := Lib.hid hx
  have HFEW : Hid (∀ j, plL held (kti (⟨R, tr, r2⟩ :: ⟨L, tl, r1⟩ :: H)) j ≤ 1048200) := hd.few hm (by simp; omega)
  have HVV : Hid ((D = false → val = X.val ∧ K = bL) ∧ (D = true → val = mrgV pol X.val V ∧ K = polB pol)) := ⟨v1, v2⟩
  have HRD : Hid (0 ≤ rd ∧ rd ≤ 1099510990000) := ⟨h0, h01⟩
  have HRO := Lib.hid hro
  have HBD : Hid (0 ≤ joinBd r1.length r2.length) := by show _ ≤ _; unfold joinBd; omega
  rw [hV, hD]
  have hs0 := (hs.box #[Value.int .i64 X.key, .int .i64 X.val, .int .u32 (X.left : Int), .int .u32 (X.right : Int), .int .i64 X.size, .int .i64 X.sum, .int .i64 X.mn, .int .i64 X.mx] 81).box #[Value.int .u32 (lo : Int), .int .i64 V, .bool D, .int .u32 (hi : Int)] 144
  (try simp only [sz_al] at hs0)
  clear hs hd hm hl hx hxl hxr hup hwf hwm h1 h2 h0 h01 hro hV hD he v1 v2 v3 v4 k1 k2 hop hQ0 hQ1 hsame hup2
  unfold ptR
  go_enter Tryz.func104, Tryz.ntmps104
  go_upto_region 1 with fail
  (try simp only [sz_al])
  generalize (wr.alloc (Obj.cells #[Value.int .i64 X.key, .int .i64 X.val, .int .u32 (X.left : Int), .int .u32 (X.right : Int), .int .i64 X.size, .int .i64 X.sum, .int .i64 X.mn, .int .i64 X.mx] 81)).alloc (Obj.cells #[Value.int .u32 (lo : Int), .int .i64 V, .bool D, .int .u32 (hi : Int)] 144) = w1 at hs0 ⊢
  generalize wr.heap.size + 1 = qp at hs0 ⊢
  generalize wr.heap.size = qn at hs0 ⊢
  have HS0 := Lib.hid hs0
  clear hs0
  have HCE : Hid (∀ {wx : World} {C : Ar} {rdx : Int}, Ins I w F (.pointer (some pa)) C rdx rs ((qp, Obj.cells #[Value.int .u32 (lo : Int), .int .i64 V, .bool D, .int .u32 (hi : Int)] 144 (0, 0)) :: (qn, Obj.cells #[Value.int .i64 X.key, .int .i64 X.val, .int .u32 (X.left : Int), .int .u32 (X.right : Int), .int .i64 X.size, .int .i64 X.sum, .int .i64 X.mn, .int .i64 X.mx] 81 (0, 0)) :: (g, Obj.cells (opC (.pointer (some pa)) bL bR pol u) 91 (0, 0)) :: bs) wx → (wx.cell? ⟨qp, 0, none⟩ = some (.int .u32 (lo : Int)) ∧ wx.cell? ⟨qp, 1, none⟩ = some (.int .i64 V) ∧ wx.cell? ⟨qp, 2, none⟩ = some (.bool D) ∧ wx.cell? ⟨qp, 3, none⟩ = some (.int .u32 (hi : Int))) ∧
      (wx.cell? ⟨qn, 0, none⟩ = some (.int .i64 X.key) ∧ wx.cell? ⟨qn, 1, none⟩ = some (.int .i64 X.val) ∧ wx.cell? ⟨qn, 2, none⟩ = some (.int .u32 (X.left : Int)) ∧ wx.cell? ⟨qn, 3, none⟩ = some (.int .u32 (X.right : Int))) ∧
      (wx.cell? ⟨g, 0, none⟩ = some (.pointer (some pa)) ∧ wx.cell? ⟨g, 1, none⟩ = some (.bool bL) ∧ wx.cell? ⟨g, 2, none⟩ = some (.bool bR) ∧ wx.cell? ⟨g, 3, none⟩ = some (.int .i64 pol))) := fun {wx C rdx} hx => by
    obtain ⟨hq, -⟩ := cells4_of (hx.boxes _ (List.Mem.head _)).2
    obtain ⟨hr, -⟩ := hx.row8 (g := qn) (X := X) (by simp [ndRow])
    obtain ⟨ho, -⟩ := opC_of (hx.boxes _ (List.Mem.tail _ (List.Mem.tail _ (List.Mem.head _)))).2
    exact ⟨hq, ⟨hr.1, hr.2.1, hr.2.2.1, hr.2.2.2.1⟩, ⟨ho.1, ho.2.1, ho.2.2.1, ho.2.2.2.1⟩⟩
  obtain ⟨⟨p0, p1, p2, p3⟩, ⟨x0, x1, x2, x3⟩, ⟨c0, c1, c2, c3⟩⟩ := HCE.out HS0.out
  go_quiet (fail)
  rename Nat => d1
  have hs1 := HS0.out.calm (below_drewN (Below.refl _ _) d1)
  clear p0 p1 p2 p3 x0 x1 x2 x3 c0 c1 c2 c3 HS0
  generalize w1.drewN d1 = w2 at hs1 ⊢
  have HS1 := Lib.hid hs1
  clear hs1
  obtain ⟨⟨p0, p1, p2, p3⟩, ⟨x0, x1, x2, x3⟩, ⟨c0, c1, c2, c3⟩⟩ := HCE.out HS1.out
  cases D with
  | false =>
    obtain ⟨hv, hk⟩ := HVV.out.1 rfl
    clear HVV
    subst hv
    subst bL
    cases K with
    | false =>
      go_wp2_with fail
      refine (HS1.out.mut fun F1 hI1 => concatH_any I _ hI1 HD.out.mid.inv HFEW.out HT1.out HT2.out HWF.out.1 HWF.out.2.1 (by have := HRD.out; omega) (by have := HRD.out; omega)).mono ?_
      rintro e w5 ⟨C, rd5, hq, hs5⟩
      obtain ⟨q0, q1, j, t, rfl, hg⟩ := hq.1.roomO HUP2.out HRO.out
      have HF : Hid (AsmQ A held (⟨R, tr, r2⟩ :: ⟨L, tl, r1⟩ :: H) (joinBd r1.length r2.length) rd false bR pol (ll ++ (⟨X.key, X.val⟩ : En) :: lr) m (.returned (.tuple #[.int .u32 (j : Int), .int .i64 0])) C rd5 ∧ Ins I w F (.pointer (some pa)) C rd5 rs ((g, Obj.cells (opC (.pointer (some pa)) false bR pol u) 91 (0, 0)) :: bs) w5) := ⟨HQ0.out (by trivial) C rd5 j t (HD.out.got hg) q0 q1, hs5.less (List.Sublist.refl _) (.cons _ (.cons _ (List.Sublist.refl _)))⟩
      clear hq q0 q1 hg hs5 p0 p1 p2 p3 x0 x1 x2 x3 c0 c1 c2 c3 HS1
      go_wp2_with fail
      go_ret2
      exact ⟨C, rd5, HF.out.1, HF.out.2⟩
    | true =>
    have hcase : (L = X.left ∧ R = X.right) ∨ ¬ L = X.left ∨ (L = X.left ∧ ¬ R = X.right) := by
      by_cases a1 : L = X.left <;> by_cases a2 : R = X.right <;> simp [*]
    rcases hcase with ⟨a1, a2⟩ | a1 | ⟨a1, a2⟩
    · have e1 : decide ((L : Int) = (X.left : Int)) = true := decide_eq_true (by omega)
      have e2 : decide ((R : Int) = (X.right : Int)) = true := decide_eq_true (by omega)
      have e3 : ((L : Int) == (X.left : Int)) = true := by simp; omega
      have e4 : ((R : Int) == (X.right : Int)) = true := by simp; omega
      have HXX : Hid (Hd A held (B.ret x) (⟨x, tx, r1 ++ ⟨X.key, X.val⟩ :: r2⟩ :: ⟨R, tr, r2⟩ :: ⟨L, tl, r1⟩ :: H)) := by
        show Hd _ _ _ _
        rw [← HSAME.out a1 a2 rfl]
        exact (HD.out.ret HX.out).1
      clear a1 a2
      go_wp2_with fail
      refine (HS1.out.mut fun F1 hI1 => shareS_any I _ hI1 HD.out.mid.inv (fun q => Nat.le_trans (HFEW.out q) (by decide)) HX.out.idx).mono ?_
      rintro e w5 ⟨C, rd5, ⟨rfl, rfl, hrd⟩, hs5⟩
      rw [hrd] at hs5
      clear hrd
      have HF : Hid (AsmQ A held (⟨R, tr, r2⟩ :: ⟨L, tl, r1⟩ :: H) (joinBd r1.length r2.length) rd true bR pol (ll ++ (⟨X.key, X.val⟩ : En) :: lr) m (.returned (.tuple #[.int .u32 (x : Int), .int .i64 0])) (B.ret x) rd ∧ Ins I w F (.pointer (some pa)) (B.ret x) rd rs ((g, Obj.cells (opC (.pointer (some pa)) true bR pol u) 91 (0, 0)) :: bs) w5) := ⟨HQ1.out (by trivial) _ _ x tx HXX.out (Int.le_refl _) (by have := HBD.out; omega), hs5.less (List.Sublist.refl _) (.cons _ (.cons _ (List.Sublist.refl _)))⟩
      clear hs5 p0 p1 p2 p3 x0 x1 x2 x3 c0 c1 c2 c3 HS1
      go_wp2_with fail
      go_ret2
      exact ⟨_, rd, HF.out.1, HF.out.2⟩
    case' inr.inl =>
      have e1 : ¬ (L : Int) = (X.left : Int) := by omega
      have e2 : decide ((L : Int) = (X.left : Int)) = false := decide_eq_false e1
      have e3 : ((L : Int) == (X.left : Int)) = false := by simp; omega
      clear a1
    case' inr.inr =>
      have e1 : decide ((L : Int) = (X.left : Int)) = true := decide_eq_true (by omega)
      have e2 : decide ((R : Int) = (X.right : Int)) = false := decide_eq_false (by omega)
      have e3 : ((L : Int) == (X.left : Int)) = true := by simp; omega
      have e4 : ((R : Int) == (X.right : Int)) = false := by simp; omega
      have e5 : ¬ (R : Int) = (X.right : Int) := by omega
      clear a1 a2
    all_goals
      go_upto_region 8 with fail
      have hsd := HS1.out.calm (Below.refl _ _).drew
      clear HS1
      refine anyG_begin (S := (fun w' => w'.cell? ⟨g, 0, none⟩ = some (.pointer (some pa)) ∧ w'.cell? ⟨qn, 0, none⟩ = some (.int .i64 X.key))) (z := 9999) (by kernel_rfl) ⟨(HCE.out hsd).2.2.1, (HCE.out hsd).2.1.1⟩ (fun hHeld => ?_)
      refine anyG_tk (v := ?_) 0 73 rfl (by kernel_rfl) (Or.inl ⟨by rfl, ?_⟩) (by assumption) ?_
      rotate_left
      · intro w hSw; (try dsimp only at hSw); go_simp; try with_reducible rfl
      (try simp only [Act.put, put_s])
      refine anyG_tk (v := ?_) 1 74 rfl (by kernel_rfl) (Or.inl ⟨by rfl, ?_⟩) (by assumption) ?_
      rotate_left
      · intro w hSw; (try dsimp only at hSw); go_simp; try with_reducible rfl
      (try simp only [Act.put, put_s])
      refine anyG_tk (v := ?_) 2 75 rfl (by kernel_rfl) (Or.inl ⟨by rfl, ?_⟩) (by assumption) ?_
      rotate_left
      · intro w hSw; (try dsimp only at hSw); go_simp; try with_reducible rfl
      (try simp only [Act.put, put_s])
      refine anyG_tk (v := ?_) 3 76 rfl (by kernel_rfl) (Or.inl ⟨by rfl, ?_⟩) (by assumption) ?_
      rotate_left
      · intro w hSw; (try dsimp only at hSw); go_simp; try with_reducible rfl
      (try simp only [Act.put, put_s])
      refine anyG_tk (v := ?_) 4 77 rfl (by kernel_rfl) (Or.inl ⟨by rfl, ?_⟩) (by assumption) ?_
      rotate_left
      · intro w hSw; (try dsimp only at hSw); go_simp; try with_reducible rfl
      (try simp only [Act.put, put_s])
      refine anyG_tk (v := ?_) 5 78 rfl (by kernel_rfl) (Or.inl ⟨by rfl, ?_⟩) (by assumption) ?_
      rotate_left
      · intro w hSw; (try dsimp only at hSw); go_simp; try with_reducible rfl
      (try simp only [Act.put, put_s])
      refine anyG_tk (v := ?_) 6 79 rfl (by kernel_rfl) (Or.inl ⟨by rfl, ?_⟩) (by assumption) ?_
      rotate_left
      · intro w hSw; (try dsimp only at hSw); go_simp; try with_reducible rfl
      (try simp only [Act.put, put_s])
      refine anyG_tk (v := ?_) 7 80 rfl (by kernel_rfl) (Or.inl ⟨by rfl, ?_⟩) (by assumption) ?_
      rotate_left
      · intro w hSw; (try dsimp only at hSw); go_simp; try with_reducible rfl
      (try simp only [Act.put, put_s])
      refine anyG_tk (v := ?_) 8 81 rfl (by kernel_rfl) (Or.inl ⟨by rfl, ?_⟩) (by assumption) ?_
      rotate_left
      · intro w hSw; (try dsimp only at hSw); go_simp; try with_reducible rfl
      (try simp only [Act.put, put_s])
      refine anyG_tk (v := ?_) 9 82 rfl (by kernel_rfl) (Or.inl ⟨by rfl, ?_⟩) (by assumption) ?_
      rotate_left
      · intro w hSw; (try dsimp only at hSw); go_simp; try with_reducible rfl
      (try simp only [Act.put, put_s])
      refine anyG_one (k := 10) (o := _) (by kernel_rfl) rfl (fun KT hKT => ?_)
      go_simp
      go_at_call 127
      refine (hsd.mut fun F1 hI1 => joinS_any I ⟨X.key, X.val⟩ _ hI1 HD.out.mid.inv HFEW.out HT1.out HT2.out HWF.out.1 HWF.out.2.1 (by have := HRD.out; omega) (by have := HRD.out; omega) HWF.out.2.2.1 (HWF.out.2.2.2 (by trivial))).mono ?_
      rintro eA wA ⟨C, rdA, hq, hsA⟩
      obtain ⟨q0, q1, j, t, rfl, hg⟩ := hq.1.room HKK.out HRO.out
      try go_wp2_with fail
      refine hKT.out _ _ ⟨(HCE.out hsA).2.2.1, (HCE.out hsA).2.1.1⟩ (fun hHeld => ?_)
      clear hKT KT
      (try simp only [Act.put, put_s])
      refine anyG_tk (v := ?_) 11 84 rfl (by kernel_rfl) (Or.inl ⟨by rfl, ?_⟩) (by assumption) ?_
      rotate_left
      · intro w hSw; (try dsimp only at hSw); go_simp; try with_reducible rfl
      (try simp only [Act.put, put_s])
      refine anyG_tk (v := ?_) 12 85 rfl (by kernel_rfl) (Or.inl ⟨by rfl, ?_⟩) (by assumption) ?_
      rotate_left
      · intro w hSw; (try dsimp only at hSw); go_simp; try with_reducible rfl
      (try simp only [Act.put, put_s])
      refine anyG_tk (v := ?_) 13 12 rfl (by kernel_rfl) (Or.inl ⟨by rfl, ?_⟩) (by assumption) ?_
      rotate_left
      · intro w hSw; (try dsimp only at hSw); go_simp; try with_reducible rfl
      (try simp only [Act.put, put_s])
      refine anyG_tk (v := ?_) 14 13 rfl (by kernel_rfl) (Or.inl ⟨by rfl, ?_⟩) (by assumption) ?_
      rotate_left
      · intro w hSw; (try dsimp only at hSw); go_simp; try with_reducible rfl
      (try simp only [Act.put, put_s])
      refine anyG_done (by kernel_rfl) ?_ _
      have HF : Hid (AsmQ A held (⟨R, tr, r2⟩ :: ⟨L, tl, r1⟩ :: H) (joinBd r1.length r2.length) rd true bR pol (ll ++ (⟨X.key, X.val⟩ : En) :: lr) m (.returned (.tuple #[.int .u32 (j : Int), .int .i64 0])) C rdA ∧ Ins I w F (.pointer (some pa)) C rdA rs ((g, Obj.cells (opC (.pointer (some pa)) true bR pol u) 91 (0, 0)) :: bs) wA) := ⟨HQ1.out (by trivial) C rdA j t (HD.out.got hg) q0 q1, hsA.less (List.Sublist.refl _) (.cons _ (.cons _ (List.Sublist.refl _)))⟩
      clear hq q0 q1 hg hsA hsd hHeld HCE
      go_wp2_with fail
      go_ret2
      exact ⟨C, rdA, HF.out.1, HF.out.2⟩
  | true =>
    obtain ⟨hv, hk⟩ := HVV.out.2 rfl
    have HVX := Lib.hid hv
    have HKX := Lib.hid hk
    go_upto_region 3 with fail
    go_quiet ((go_at_call 77; exact Calls.quiet_of_same (mergedS_any _ _ _ _)))
    rename Nat => d2
    rw [← HVX.out, ← HKX.out]
    have hs3 := HS1.out.calm (below_drewN (Below.refl _ _) d2)
    clear p0 p1 p2 p3 x0 x1 x2 x3 c0 c1 c2 c3 HS1 hv hk HVV HVX HKX
    generalize w2.drewN d2 = w4 at hs3 ⊢
    have HS1 := Lib.hid hs3
    clear hs3
    obtain ⟨⟨p0, p1, p2, p3⟩, ⟨x0, x1, x2, x3⟩, ⟨c0, c1, c2, c3⟩⟩ := HCE.out HS1.out
    cases K with
    | false =>
      go_wp2_with fail
      refine (HS1.out.mut fun F1 hI1 => concatH_any I _ hI1 HD.out.mid.inv HFEW.out HT1.out HT2.out HWF.out.1 HWF.out.2.1 (by have := HRD.out; omega) (by have := HRD.out; omega)).mono ?_
      rintro e w5 ⟨C, rd5, hq, hs5⟩
      obtain ⟨q0, q1, j, t, rfl, hg⟩ := hq.1.roomO HUP2.out HRO.out
      have HF : Hid (AsmQ A held (⟨R, tr, r2⟩ :: ⟨L, tl, r1⟩ :: H) (joinBd r1.length r2.length) rd bL bR pol (ll ++ (⟨X.key, X.val⟩ : En) :: lr) m (.returned (.tuple #[.int .u32 (j : Int), .int .i64 0])) C rd5 ∧ Ins I w F (.pointer (some pa)) C rd5 rs ((g, Obj.cells (opC (.pointer (some pa)) bL bR pol u) 91 (0, 0)) :: bs) w5) := ⟨HQ0.out (by trivial) C rd5 j t (HD.out.got hg) q0 q1, hs5.less (List.Sublist.refl _) (.cons _ (.cons _ (List.Sublist.refl _)))⟩
      clear hq q0 q1 hg hs5 p0 p1 p2 p3 x0 x1 x2 x3 c0 c1 c2 c3 HS1
      go_wp2_with fail
      go_ret2
      exact ⟨C, rd5, HF.out.1, HF.out.2⟩
    | true =>
    have hcase : (L = X.left ∧ R = X.right ∧ val = X.val) ∨ ¬ L = X.left ∨ (L = X.left ∧ ¬ R = X.right) ∨ (L = X.left ∧ R = X.right ∧ ¬ val = X.val) := by
      by_cases a1 : L = X.left <;> by_cases a2 : R = X.right <;> by_cases a3 : val = X.val <;> simp [*]
    rcases hcase with ⟨a1, a2, a3⟩ | a1 | ⟨a1, a2⟩ | ⟨a1, a2, a3⟩
    · have e1 : decide ((L : Int) = (X.left : Int)) = true := decide_eq_true (by omega)
      have e2 : decide ((R : Int) = (X.right : Int)) = true := decide_eq_true (by omega)
      have e3 : ((L : Int) == (X.left : Int)) = true := by simp; omega
      have e4 : ((R : Int) == (X.right : Int)) = true := by simp; omega
      have e5 : decide (val = X.val) = true := decide_eq_true a3
      have e6 : (val == X.val) = true := by simp; omega
      have HXX : Hid (Hd A held (B.ret x) (⟨x, tx, r1 ++ ⟨X.key, val⟩ :: r2⟩ :: ⟨R, tr, r2⟩ :: ⟨L, tl, r1⟩ :: H)) := by
        show Hd _ _ _ _
        rw [← HSAME.out a1 a2 a3]
        exact (HD.out.ret HX.out).1
      clear a1 a2 a3
      go_wp2_with fail
      refine (HS1.out.mut fun F1 hI1 => shareS_any I _ hI1 HD.out.mid.inv (fun q => Nat.le_trans (HFEW.out q) (by decide)) HX.out.idx).mono ?_
      rintro e w5 ⟨C, rd5, ⟨rfl, rfl, hrd⟩, hs5⟩
      rw [hrd] at hs5
      clear hrd
      have HF : Hid (AsmQ A held (⟨R, tr, r2⟩ :: ⟨L, tl, r1⟩ :: H) (joinBd r1.length r2.length) rd bL bR pol (ll ++ (⟨X.key, X.val⟩ : En) :: lr) m (.returned (.tuple #[.int .u32 (x : Int), .int .i64 0])) (B.ret x) rd ∧ Ins I w F (.pointer (some pa)) (B.ret x) rd rs ((g, Obj.cells (opC (.pointer (some pa)) bL bR pol u) 91 (0, 0)) :: bs) w5) := ⟨HQ1.out (by trivial) _ _ x tx HXX.out (Int.le_refl _) (by have := HBD.out; omega), hs5.less (List.Sublist.refl _) (.cons _ (.cons _ (List.Sublist.refl _)))⟩
      clear hs5 p0 p1 p2 p3 x0 x1 x2 x3 c0 c1 c2 c3 HS1
      go_wp2_with fail
      go_ret2
      exact ⟨_, rd, HF.out.1, HF.out.2⟩
    case' inr.inl =>
      have e1 : ¬ (L : Int) = (X.left : Int) := by omega
      have e2 : decide ((L : Int) = (X.left : Int)) = false := decide_eq_false e1
      have e3 : ((L : Int) == (X.left : Int)) = false := by simp; omega
      clear a1
    case' inr.inr.inl =>
      have e1 : decide ((L : Int) = (X.left : Int)) = true := decide_eq_true (by omega)
      have e2 : decide ((R : Int) = (X.right : Int)) = false := decide_eq_false (by omega)
      have e3 : ((L : Int) == (X.left : Int)) = true := by simp; omega
      have e4 : ((R : Int) == (X.right : Int)) = false := by simp; omega
      have e5 : ¬ (R : Int) = (X.right : Int) := by omega
      clear a1 a2
    case' inr.inr.inr =>
      have e1 : decide ((L : Int) = (X.left : Int)) = true := decide_eq_true (by omega)
      have e2 : decide ((R : Int) = (X.right : Int)) = true := decide_eq_true (by omega)
      have e3 : ((L : Int) == (X.left : Int)) = true := by simp; omega
      have e4 : ((R : Int) == (X.right : Int)) = true := by simp; omega
      have e5 : decide (val = X.val) = false := decide_eq_false a3
      have e6 : (val == X.val) = false := by simp; omega
      clear a1 a2
    all_goals
      go_upto_region 8 with fail
      have hsd := HS1.out.calm (Below.refl _ _).drew
      clear HS1
      refine anyG_begin (S := (fun w' => w'.cell? ⟨g, 0, none⟩ = some (.pointer (some pa)) ∧ w'.cell? ⟨qn, 0, none⟩ = some (.int .i64 X.key))) (z := 9999) (by kernel_rfl) ⟨(HCE.out hsd).2.2.1, (HCE.out hsd).2.1.1⟩ (fun hHeld => ?_)
      refine anyG_tk (v := ?_) 0 73 rfl (by kernel_rfl) (Or.inl ⟨by rfl, ?_⟩) (by assumption) ?_
      rotate_left
      · intro w hSw; (try dsimp only at hSw); go_simp; try with_reducible rfl
      (try simp only [Act.put, put_s])
      refine anyG_tk (v := ?_) 1 74 rfl (by kernel_rfl) (Or.inl ⟨by rfl, ?_⟩) (by assumption) ?_
      rotate_left
      · intro w hSw; (try dsimp only at hSw); go_simp; try with_reducible rfl
      (try simp only [Act.put, put_s])
      refine anyG_tk (v := ?_) 2 75 rfl (by kernel_rfl) (Or.inl ⟨by rfl, ?_⟩) (by assumption) ?_
      rotate_left
      · intro w hSw; (try dsimp only at hSw); go_simp; try with_reducible rfl
      (try simp only [Act.put, put_s])
      refine anyG_tk (v := ?_) 3 76 rfl (by kernel_rfl) (Or.inl ⟨by rfl, ?_⟩) (by assumption) ?_
      rotate_left
      · intro w hSw; (try dsimp only at hSw); go_simp; try with_reducible rfl
      (try simp only [Act.put, put_s])
      refine anyG_tk (v := ?_) 4 77 rfl (by kernel_rfl) (Or.inl ⟨by rfl, ?_⟩) (by assumption) ?_
      rotate_left
      · intro w hSw; (try dsimp only at hSw); go_simp; try with_reducible rfl
      (try simp only [Act.put, put_s])
      refine anyG_tk (v := ?_) 5 78 rfl (by kernel_rfl) (Or.inl ⟨by rfl, ?_⟩) (by assumption) ?_
      rotate_left
      · intro w hSw; (try dsimp only at hSw); go_simp; try with_reducible rfl
      (try simp only [Act.put, put_s])
      refine anyG_tk (v := ?_) 6 79 rfl (by kernel_rfl) (Or.inl ⟨by rfl, ?_⟩) (by assumption) ?_
      rotate_left
      · intro w hSw; (try dsimp only at hSw); go_simp; try with_reducible rfl
      (try simp only [Act.put, put_s])
      refine anyG_tk (v := ?_) 7 80 rfl (by kernel_rfl) (Or.inl ⟨by rfl, ?_⟩) (by assumption) ?_
      rotate_left
      · intro w hSw; (try dsimp only at hSw); go_simp; try with_reducible rfl
      (try simp only [Act.put, put_s])
      refine anyG_tk (v := ?_) 8 81 rfl (by kernel_rfl) (Or.inl ⟨by rfl, ?_⟩) (by assumption) ?_
      rotate_left
      · intro w hSw; (try dsimp only at hSw); go_simp; try with_reducible rfl
      (try simp only [Act.put, put_s])
      refine anyG_tk (v := ?_) 9 82 rfl (by kernel_rfl) (Or.inl ⟨by rfl, ?_⟩) (by assumption) ?_
      rotate_left
      · intro w hSw; (try dsimp only at hSw); go_simp; try with_reducible rfl
      (try simp only [Act.put, put_s])
      refine anyG_one (k := 10) (o := _) (by kernel_rfl) rfl (fun KT hKT => ?_)
      go_simp
      go_at_call 127
      refine (hsd.mut fun F1 hI1 => joinS_any I ⟨X.key, val⟩ _ hI1 HD.out.mid.inv HFEW.out HT1.out HT2.out HWF.out.1 HWF.out.2.1 (by have := HRD.out; omega) (by have := HRD.out; omega) HWF.out.2.2.1 (HWF.out.2.2.2 (by trivial))).mono ?_
      rintro eA wA ⟨C, rdA, hq, hsA⟩
      obtain ⟨q0, q1, j, t, rfl, hg⟩ := hq.1.room HKK.out HRO.out
      try go_wp2_with fail
      refine hKT.out _ _ ⟨(HCE.out hsA).2.2.1, (HCE.out hsA).2.1.1⟩ (fun hHeld => ?_)
      clear hKT KT
      (try simp only [Act.put, put_s])
      refine anyG_tk (v := ?_) 11 84 rfl (by kernel_rfl) (Or.inl ⟨by rfl, ?_⟩) (by assumption) ?_
      rotate_left
      · intro w hSw; (try dsimp only at hSw); go_simp; try with_reducible rfl
      (try simp only [Act.put, put_s])
      refine anyG_tk (v := ?_) 12 85 rfl (by kernel_rfl) (Or.inl ⟨by rfl, ?_⟩) (by assumption) ?_
      rotate_left
      · intro w hSw; (try dsimp only at hSw); go_simp; try with_reducible rfl
      (try simp only [Act.put, put_s])
      refine anyG_tk (v := ?_) 13 12 rfl (by kernel_rfl) (Or.inl ⟨by rfl, ?_⟩) (by assumption) ?_
      rotate_left
      · intro w hSw; (try dsimp only at hSw); go_simp; try with_reducible rfl
      (try simp only [Act.put, put_s])
      refine anyG_tk (v := ?_) 14 13 rfl (by kernel_rfl) (Or.inl ⟨by rfl, ?_⟩) (by assumption) ?_
      rotate_left
      · intro w hSw; (try dsimp only at hSw); go_simp; try with_reducible rfl
      (try simp only [Act.put, put_s])
      refine anyG_done (by kernel_rfl) ?_ _
      have HF : Hid (AsmQ A held (⟨R, tr, r2⟩ :: ⟨L, tl, r1⟩ :: H) (joinBd r1.length r2.length) rd bL bR pol (ll ++ (⟨X.key, X.val⟩ : En) :: lr) m (.returned (.tuple #[.int .u32 (j : Int), .int .i64 0])) C rdA ∧ Ins I w F (.pointer (some pa)) C rdA rs ((g, Obj.cells (opC (.pointer (some pa)) bL bR pol u) 91 (0, 0)) :: bs) wA) := ⟨HQ1.out (by trivial) C rdA j t (HD.out.got hg) q0 q1, hsA.less (List.Sublist.refl _) (.cons _ (.cons _ (List.Sublist.refl _)))⟩
      clear hq q0 q1 hg hsA hsd hHeld HCE
      go_wp2_with fail
      go_ret2
      exact ⟨C, rdA, HF.out.1, HF.out.2⟩
end Go.Proofs.YtfihklpofmcfgaaGreat
