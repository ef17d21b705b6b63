/- Of the proof of UJoinUndoesSplitP: JnOk, LawJnUndo. -/
import Derived.Test.YtckkmmdibgoajaaU1
import Derived.Test.YtckkmmdibgoajaaU2
import Derived.Test.YtckkmmdibgoajaaU3
import Derived.Test.YtckkmmdibgoajaaU4
import Derived.Test.YtckkmmdibgoajaaU5
import Derived.Test.YtckkmmdibgoajaaU6
import Derived.Test.YtckkmmdibgoajaaU7
import Derived.Test.YtckkmmdibgoajaaU8
import Derived.Test.YtckkmmdibgoajaaU9
import Derived.Test.YtckkmmdibgoajaaU10
import Derived.Test.YtckkmmdibgoajaaU11
import Derived.Test.YtckkmmdibgoajaaU12
import Derived.Test.YtckkmmdibgoajaaU13
import Derived.Test.YtckkmmdibgoajaaUJoinUndoesSplitP1
import Derived.Deep.DeepCutAuto
set_option linter.unusedVariables false
set_option linter.unusedSimpArgs false
namespace Go.Proofs.Ytckkmmdibgoajaa
open Go.RowKit
theorem allLtJ {l : List En} (hu : Up l) (k : Int) : AllLt l k ↔ ∀ x, l.getLast? = some x → x.key < k := by
  constructor
  · intro h x hx
    exact h x (List.mem_of_getLast? hx)
  · intro h y hy
    obtain ⟨x, hx⟩ : ∃ x, l.getLast? = some x := ⟨_, List.getLast?_eq_some_getLast (fun e => by rw [e] at hy; cases hy)⟩
    have h0 := h x hx
    obtain ⟨i, hi, rfl⟩ := List.mem_iff_getElem.1 hy
    rw [List.getLast?_eq_getElem?] at hx
    obtain ⟨hj, rfl⟩ := List.getElem?_eq_some_iff.1 hx
    rcases Nat.lt_or_ge i (l.length - 1) with h2 | h2
    · have := List.pairwise_iff_getElem.1 hu i (l.length - 1) hi hj h2; omega
    · have h3 : i = l.length - 1 := by omega
      subst h3; exact h0
theorem allGtJ {l : List En} (hu : Up l) (k : Int) : AllGt l k ↔ ∀ x, l.head? = some x → k < x.key := by
  constructor
  · intro h x hx
    exact h x (List.mem_of_mem_head? hx)
  · intro h y hy
    cases l with
    | nil => cases hy
    | cons z t =>
      have h0 := h z rfl
      rcases List.mem_cons.1 hy with rfl | hy
      · exact h0
      · have := (List.pairwise_cons.1 hu).1 y hy; omega
theorem results_tmp5 {fn : Func} {a b c d e : Tmp} (h : fn.results = #[.tmp a, .tmp b, .tmp c, .tmp d, .tmp e]) (tmps : Array Value) (P : Program) (w : World) :
    (results fn tmps).run P w = .ok (.tuple #[tmps.getD a undef, tmps.getD b undef, tmps.getD c undef, tmps.getD d undef, tmps.getD e undef]) w := by
  simp [results, h]
theorem splitJ {n : Nat} (hn : n ≤ 65536) : splitI (n : Int) = 12 * ((xh n : Int) + 2) := by
  unfold splitI needI
  have hv : vld (n : Int) ∧ vld 0 ∧ vld 0 := by unfold vld; omega
  rw [if_pos hv, show (n : Int) + 0 + 0 + 0 = (n : Int) by omega, xhI_nat (by omega)]
  omega
set_option maxHeartbeats 32000000 in
set_option maxRecDepth 100000 in
theorem joinP_any (I : AImpl) {p : Value} {A : Ar} {rd : Int} {F : Nat → Prop} {held : Nat → Nat} {L R : Nat} {tl tr : Tr} {ll lr : List En} (e : En) (w : World) (hI : I.Is w p A rd F) (hv : A.Inv [] held) (hm : ∀ j, held j ≤ 1048000) (hL : TreeAt A L tl ll) (hR : TreeAt A R tr lr) (hwl : WfL ll) (hwr : WfL lr) (h0 : 0 ≤ rd) (h1 : rd ≤ 1099511000000) (hk : i64R e.key) (hx : i64R e.val) :
    Calls Try.prog 33 #[p, .int .u32 (L : Int), .agg #[.int .i64 e.key, .int .i64 e.val], .int .u32 (R : Int)] w (Mut I p F (JoinQ A rd held L R ll lr e) w) := by
  obtain ⟨pa, rfl⟩ := I.ptr hI
  have hs0 := (Ins.start hI).box #[Value.int .i64 e.key, .int .i64 e.val] 31
  have HV := Lib.hid hv
  have HM := Lib.hid hm
  have HL := Lib.hid hL
  have HR := Lib.hid hR
  have HW : Hid (WfL ll ∧ WfL lr ∧ i64R e.key ∧ i64R e.val) := ⟨hwl, hwr, hk, hx⟩
  have HRD : Hid (0 ≤ rd ∧ rd ≤ 1099511000000) := ⟨h0, h1⟩
  have hn := hL.few
  have hm' := hR.few
  have x1 := xh_up (m := ll.length) (n := ll.length + lr.length + 1) (by omega) (by omega)
  have x2 := xh_up (m := lr.length) (n := ll.length + lr.length + 1) (by omega) (by omega)
  have HN : Hid (ll.length ≤ 65536 ∧ lr.length ≤ 65536) := ⟨hn, hm'⟩
  have HJ : Hid (jd tl tr ≤ xh (ll.length + lr.length + 1)) := by
    have := jd_xh hL.bal hR.bal (by rw [hL.size, hR.size]; omega)
    rw [hL.size, hR.size] at this
    exact this
  have HB : Hid (mostI ll.length + mostI lr.length + 2 + 14 * (jd tl tr : Int) + 2 ≤ joinBd ll.length lr.length ∧ 0 ≤ mostI ll.length ∧ 0 ≤ mostI lr.length ∧ mostI ll.length ≤ 1000 ∧ mostI lr.length ≤ 1000 ∧ (jd tl tr : Int) ≤ 100 ∧ joinI (ll.length : Int) (lr.length : Int) = 4 * ((xh (ll.length + lr.length + 1) : Int) + 2)) := by
    have h1 := HJ.out
    have h2 := (xh_spec (n := ll.length + lr.length + 1) (by omega)).2.1
    refine ⟨?_, ?_, ?_, ?_, ?_, by omega, joinJ hn hm'⟩ <;> (try unfold joinBd) <;> (try unfold mostI) <;> omega
  have HZ : Hid (A.sz L = (ll.length : Int) ∧ A.sz R = (lr.length : Int) ∧ A.Idx L ∧ A.Idx R ∧ L < 4294967296 ∧ R < 4294967296) := ⟨hL.at_.sz hL.agg, hR.at_.sz hL.agg, hL.idx', hR.idx', hL.idx, hR.idx⟩
  have hlt := allLtJ hL.up e.key
  have hgt := allGtJ hR.up e.key
  obtain ⟨ol, hol⟩ : ∃ o, ll.getLast? = o := ⟨_, rfl⟩
  obtain ⟨og, hog⟩ : ∃ o, lr.head? = o := ⟨_, rfl⟩
  rw [hol] at hlt
  rw [hog] at hgt
  have HOL := Lib.hid hol
  have HOG := Lib.hid hog
  have HLT := Lib.hid hlt
  have HGT := Lib.hid hgt
  clear hI hv hm hL hR hwl hwr h0 h1 hk hx hn hm' hlt hgt hol hog x1 x2
  go_enter Try.func33, Try.ntmps33
  go_upto_region 1 with fail
  generalize w.alloc (Obj.cells #[Value.int .i64 e.key, .int .i64 e.val] 31) = w1 at hs0 ⊢
  generalize w.heap.size = ge at hs0 ⊢
  have HS0 := Lib.hid hs0
  clear hs0
  go_wp2_with fail
  refine (HS0.out.call fun F1 hI1 => (lkImpl I).last w1 hI1 HL.out HRD.out.1 (by have := HRD.out; omega) (fun y hy => (HW.out.1 y hy).1)).mono ?_
  rintro en w2 ⟨rfl, rd1, hs, r1, r2⟩
  rw [HOL.out]
  have HR1 : Hid (rd ≤ rd1 ∧ rd1 ≤ rd + mostI ll.length) := ⟨r1, r2⟩
  unfold enR enA
  have hs1 := hs.box #[Value.int .i64 (ol.elim 0 (·.key)), .int .i64 (ol.elim 0 (·.val))] 31
  clear hs HS0 r1 r2
  go_upto_region 2 with fail
  generalize w2.alloc (Obj.cells #[Value.int .i64 (ol.elim 0 (·.key)), .int .i64 (ol.elim 0 (·.val))] 31) = w3 at hs1 ⊢
  generalize w2.heap.size = ga at hs1 ⊢
  have HS1 := Lib.hid hs1
  clear hs1
  go_wp2_with fail
  refine (HS1.out.call fun F1 hI1 => (lkImpl I).first w3 hI1 HR.out (by have := HRD.out; have := HR1.out; omega) (by have := HRD.out; have := HR1.out; have := HB.out; omega) (fun y hy => (HW.out.2.1 y hy).1)).mono ?_
  rintro en w4 ⟨rfl, rd2, hs, r1, r2⟩
  rw [HOG.out]
  have HR2 : Hid (rd ≤ rd2 ∧ rd2 ≤ rd + mostI ll.length + mostI lr.length) := ⟨by have := HR1.out; omega, by have := HR1.out; omega⟩
  have hs2 := hs.box #[Value.int .i64 (og.elim 0 (·.key)), .int .i64 (og.elim 0 (·.val))] 31
  clear hs HS1 r1 r2
  unfold enR enA
  go_upto_region 3 with fail
  generalize w4.alloc (Obj.cells #[Value.int .i64 (og.elim 0 (·.key)), .int .i64 (og.elim 0 (·.val))] 31) = w5 at hs2 ⊢
  generalize w4.heap.size = gb at hs2 ⊢
  have HS2 := Lib.hid hs2
  clear hs2
  obtain ⟨y0, y1⟩ := two_ofE (HS2.out.boxes (ge, Obj.cells #[Value.int .i64 e.key, .int .i64 e.val] 31 (0, 0)) (by simp)).2
  obtain ⟨z0, z1⟩ := two_ofE (HS2.out.boxes (gb, Obj.cells #[Value.int .i64 (og.elim 0 (·.key)), .int .i64 (og.elim 0 (·.val))] 31 (0, 0)) (by simp)).2
  obtain ⟨u0, u1⟩ := two_ofE (HS2.out.boxes (ga, Obj.cells #[Value.int .i64 (ol.elim 0 (·.key)), .int .i64 (ol.elim 0 (·.val))] 31 (0, 0)) (by simp)).2
  obtain ⟨KL, hKL⟩ : ∃ K, ol.elim (0 : Int) (·.key) = K := ⟨_, rfl⟩
  obtain ⟨KG, hKG⟩ : ∃ K, og.elim (0 : Int) (·.key) = K := ⟨_, rfl⟩
  obtain ⟨BL, hBL⟩ : ∃ K, ol.isSome = K := ⟨_, rfl⟩
  obtain ⟨BG, hBG⟩ : ∃ K, og.isSome = K := ⟨_, rfl⟩
  rw [hKL] at u0
  rw [hKG] at z0
  rw [hBL, hBG]
  have HLTB : Hid (AllLt ll e.key ↔ (BL = true → KL < e.key)) := by
    have h := HLT.out
    refine h.trans ?_
    cases ol with
    | none => simp at hBL; subst hBL; simp
    | some x => simp at hBL hKL; subst hBL hKL; simp
  have HGTB : Hid (AllGt lr e.key ↔ (BG = true → e.key < KG)) := by
    have h := HGT.out
    refine h.trans ?_
    cases og with
    | none => simp at hBG; subst hBG; simp
    | some x => simp at hBG hKG; subst hBG hKG; simp
  clear hKL hKG hBL hBG
  have HEND := Lib.hid HS2.out.ends
  have hcase : (BL = true ∧ e.key ≤ KL) ∨ ((BL = true ∧ KL < e.key) ∧ (BG = true ∧ KG ≤ e.key)) ∨ (BL = false ∧ (BG = true ∧ KG ≤ e.key)) ∨ ((BL = true ∧ KL < e.key) ∧ (BG = true ∧ e.key < KG)) ∨ ((BL = true ∧ KL < e.key) ∧ BG = false) ∨ (BL = false ∧ (BG = true ∧ e.key < KG)) ∨ (BL = false ∧ BG = false) := by
    cases BL <;> cases BG <;> simp <;> omega
  have HBAD : Hid (¬ (AllLt ll e.key ∧ AllGt lr e.key) → ∀ rdx, rd ≤ rdx → rdx ≤ rd + joinBd ll.length lr.length → JoinQ A rd held L R ll lr e (.returned (.tuple #[.int .u32 0, .int .i64 7])) A rdx) := fun hn rdx h1 h2 => ⟨h1, h2, .inl ⟨hn, rfl, rfl⟩⟩
  have HRB : Hid (rd ≤ rd2 ∧ rd2 ≤ rd + joinBd ll.length lr.length) := ⟨HR2.out.1, by have := HR2.out; have := HB.out; omega⟩
  rcases hcase with ⟨rfl, hq⟩ | ⟨⟨rfl, hq⟩, rfl, hq2⟩ | ⟨rfl, rfl, hq2⟩ | hgood
  · have HQ : Hid (¬ (AllLt ll e.key ∧ AllGt lr e.key)) := fun h => by have := (HLTB.out.1 h.1) rfl; omega
    have d1 : decide (e.key ≤ KL) = true := decide_eq_true hq
    go_wp2_with fail
    go_ret2
    obtain ⟨F', hal, hI⟩ := HEND.out
    exact ⟨F', A, rd2, hal, hI, HBAD.out HQ.out rd2 HRB.out.1 HRB.out.2⟩
  · have HQ : Hid (¬ (AllLt ll e.key ∧ AllGt lr e.key)) := fun h => by have := (HGTB.out.1 h.2) rfl; omega
    have d1 : decide (e.key ≤ KL) = false := decide_eq_false (by omega)
    have d2 : decide (KG ≤ e.key) = true := decide_eq_true hq2
    have d3 : ¬ e.key ≤ KL := by omega
    go_wp2_with fail
    go_ret2
    obtain ⟨F', hal, hI⟩ := HEND.out
    exact ⟨F', A, rd2, hal, hI, HBAD.out HQ.out rd2 HRB.out.1 HRB.out.2⟩
  · have HQ : Hid (¬ (AllLt ll e.key ∧ AllGt lr e.key)) := fun h => by have := (HGTB.out.1 h.2) rfl; omega
    have d2 : decide (KG ≤ e.key) = true := decide_eq_true hq2
    go_wp2_with fail
    go_ret2
    obtain ⟨F', hal, hI⟩ := HEND.out
    exact ⟨F', A, rd2, hal, hI, HBAD.out HQ.out rd2 HRB.out.1 HRB.out.2⟩
  have HOK : Hid (AllLt ll e.key ∧ AllGt lr e.key) := by
    refine ⟨HLTB.out.2 fun h => ?_, HGTB.out.2 fun h => ?_⟩
    · rcases hgood with ⟨⟨q1, q2⟩, q3⟩ | ⟨⟨q1, q2⟩, q3⟩ | ⟨q1, q3⟩ | ⟨q1, q3⟩
      · exact q2
      · exact q2
      · rw [q1] at h; cases h
      · rw [q1] at h; cases h
    · rcases hgood with ⟨q3, q1, q2⟩ | ⟨q3, q1⟩ | ⟨q3, q1, q2⟩ | ⟨q3, q1⟩
      · exact q2
      · rw [q1] at h; cases h
      · exact q2
      · rw [q1] at h; cases h
  have HGL : Hid (ll.length + lr.length + 1 ≤ 2147483647) := by have := HN.out; show _ ≤ _; omega
  clear HBAD HLTB HGTB HEND
  rcases hgood with ⟨⟨rfl, hq⟩, rfl, hq2⟩ | ⟨⟨rfl, hq⟩, rfl⟩ | ⟨rfl, rfl, hq2⟩ | ⟨rfl, rfl⟩
  case' inl => have d1 : decide (e.key ≤ KL) = false := decide_eq_false (by omega)
  case' inl => have d3 : ¬ e.key ≤ KL := by omega
  case' inl => have d2 : decide (KG ≤ e.key) = false := decide_eq_false (by omega)
  case' inl => have d4 : ¬ KG ≤ e.key := by omega
  case' inr.inl => have d1 : decide (e.key ≤ KL) = false := decide_eq_false (by omega)
  case' inr.inl => have d3 : ¬ e.key ≤ KL := by omega
  case' inr.inr.inl => have d2 : decide (KG ≤ e.key) = false := decide_eq_false (by omega)
  case' inr.inr.inl => have d4 : ¬ KG ≤ e.key := by omega
  all_goals
    go_wp2_with fail
    refine HS2.out.free.mono ?_
    rintro en w6 ⟨rfl, hs6⟩
    have HS6 := Lib.hid hs6
    clear hs6
    go_wp2_with fail
    refine (HS6.out.sz (by have := HRD.out; have := HR2.out; omega) (by have := HRD.out; have := HR2.out; have := HB.out; omega) HZ.out.2.2.2.2.1 HZ.out.2.2.1 HV.out.ok).mono ?_
    rintro en w7 ⟨rfl, hs7⟩
    rw [HZ.out.1]
    have HS7 := Lib.hid hs7
    clear hs7
    go_wp2_with fail
    refine (HS7.out.sz (by have := HRD.out; have := HR2.out; (repeat' split) <;> omega) (by have := HRD.out; have := HR2.out; have := HB.out; (repeat' split) <;> omega) HZ.out.2.2.2.2.2 HZ.out.2.2.2.1 HV.out.ok).mono ?_
    rintro en w8 ⟨rfl, hs8⟩
    rw [HZ.out.2.1]
    obtain ⟨rd3, hrd3⟩ : ∃ r, (rd2 + if L = 0 then 0 else 1) + (if R = 0 then 0 else 1) = r := ⟨_, rfl⟩
    have HR3 : Hid (rd ≤ rd3 ∧ rd3 ≤ rd + mostI ll.length + mostI lr.length + 2) := by
      have := HR2.out
      show rd ≤ rd3 ∧ rd3 ≤ rd + mostI ll.length + mostI lr.length + 2
      rw [← hrd3]
      (repeat' split) <;> omega
    rw [hrd3] at hs8
    have HS8 := Lib.hid hs8
    clear hs8 hrd3
    go_wp2_with fail
    refine (rsJoin_any (ll.length : Int) (lr.length : Int) w8 (by have := HN.out; unfold in64; omega) (by have := HN.out; unfold in64; omega)).mono ?_
    rintro en w9 ⟨rfl, hb9⟩
    have HS9 := Lib.hid (HS8.out.calm hb9)
    clear hb9
    by_cases hfr : (A.σ.free.length : Int) < joinI (ll.length : Int) (lr.length : Int)
    · have d9 : decide ((A.σ.free.length : Int) < joinI (ll.length : Int) (lr.length : Int)) = true := decide_eq_true hfr
      have HQ : Hid (JoinQ A rd held L R ll lr e (.returned (.tuple #[.int .u32 0, .int .i64 2])) A rd3) := ⟨HR3.out.1, by have := HR3.out; have := HB.out; omega, .inr (.inl ⟨HOK.out, hfr, rfl, rfl⟩)⟩
      have HE := Lib.hid HS9.out.ends
      go_wp2_with fail
      go_ret2
      obtain ⟨F', hal, hI⟩ := HE.out
      exact ⟨F', A, rd3, hal, hI, HQ.out⟩
    have d9 : decide ((A.σ.free.length : Int) < joinI (ll.length : Int) (lr.length : Int)) = false := decide_eq_false hfr
    have HFR : Hid (joinI (ll.length : Int) (lr.length : Int) ≤ (A.σ.free.length : Int)) := by show _ ≤ _; omega
    obtain ⟨v0, v1⟩ := two_ofE (HS9.out.boxes (ge, Obj.cells #[Value.int .i64 e.key, .int .i64 e.val] 31 (0, 0)) (by simp)).2
    go_wp2_with fail
    refine (HS9.out.mut fun F1 hI1 => link_all I (rotImpl I) numJ _ e w9 ⟨hI1, HV.out, HL.out.agg, fun j => Nat.le_trans (HM.out j) (by decide), HL.out.at_, HR.out.at_, HW.out.1, HW.out.2.1, HW.out.2.2, HGL.out, by have := HRD.out; have := HR3.out; omega, by have := HRD.out; have := HR3.out; have := HB.out; omega, by have := HFR.out; have := HB.out; have := HJ.out; omega⟩ (Nat.lt_succ_self _)).mono ?_
    rintro en w10 ⟨B, rd10, ⟨q0, q1, j, t, rfl, q2, q3, q4, q5⟩, hs10⟩
    have HQ : Hid (JoinQ A rd held L R ll lr e (.returned (.tuple #[.int .u32 (j : Int), .int .i64 0])) B rd10) :=
      ⟨by have := HR3.out; omega, by have := HR3.out; have := HB.out; omega, .inr (.inr ⟨HOK.out, HFR.out, j, t, rfl, q2.got q3, fun hb => q5 (bal_wb hb)⟩)⟩
    have HE := Lib.hid hs10.ends
    clear q0 q1 q2 q3 q4 q5 hs10
    go_wp2_with fail
    go_ret2
    obtain ⟨F', hal, hI⟩ := HE.out
    exact ⟨F', B, rd10, hal, hI, HQ.out⟩
theorem whole_lo {l : List En} (hu : Up l) {f : En} {k : Int} (hf : l.head? = some f) (h : k < f.key) : getE l k = none ∧ lowE l k = [] ∧ highE l k = l := by
  have hg : AllGt l k := (allGtJ hu k).2 fun x hx => by rw [hf] at hx; cases hx; exact h
  refine ⟨getE_none fun x hx => by have := hg x hx; omega, ?_, ?_⟩
  · unfold lowE; exact fil0 fun x hx => by have := hg x hx; simp; omega
  · unfold highE; exact fil1 fun x hx => by have := hg x hx; simp; omega
theorem whole_hi {l : List En} (hu : Up l) {g : En} {k : Int} (hg : l.getLast? = some g) (h : g.key < k) : getE l k = none ∧ lowE l k = l ∧ highE l k = [] := by
  have hl : AllLt l k := (allLtJ hu k).2 fun x hx => by rw [hg] at hx; cases hx; exact h
  refine ⟨getE_none fun x hx => by have := hl x hx; omega, ?_, ?_⟩
  · unfold lowE; exact fil1 fun x hx => by have := hl x hx; simp; omega
  · unfold highE; exact fil0 fun x hx => by have := hl x hx; simp; omega
theorem not_whole {l : List En} {f g : En} {k : Int} (hf : l.head? = some f) (hg : l.getLast? = some g) (h1 : f.key ≤ k) (h2 : k ≤ g.key) : ¬ wholeE l k := by
  rintro ⟨hn, h⟩
  have mf := List.mem_of_mem_head? hf
  have mg := List.mem_of_getLast? hg
  have hne : ∀ x ∈ l, x.key ≠ k := fun x hx e => by
    have := List.find?_eq_none.1 hn x hx
    simp [e] at this
  have n1 := hne f mf
  have n2 := hne g mg
  rcases h with h | h
  · have : f ∈ lowE l k := List.mem_filter.2 ⟨mf, by simp; omega⟩
    rw [h] at this
    cases this
  · have : g ∈ highE l k := List.mem_filter.2 ⟨mg, by simp; omega⟩
    rw [h] at this
    cases this
set_option maxHeartbeats 32000000 in
set_option maxRecDepth 100000 in
theorem splitP_any (I : AImpl) {p : Value} {A : Ar} {rd : Int} {F : Nat → Prop} {held : Nat → Nat} {i : Nat} {t : Tr} {l : List En} (k : Int) (w : World) (hI : I.Is w p A rd F) (hv : A.Inv [] held) (hm : ∀ j, held j ≤ 1048000) (hT : TreeAt A i t l) (hw : WfL l) (h0 : 0 ≤ rd) (h1 : rd ≤ 1099511000000) (hk : i64R k) :
    Calls Try.prog 32 #[p, .int .u32 (i : Int), .int .i64 k] w (Mut I p F (SplitQ A rd held i l k) w) := by
  obtain ⟨pa, rfl⟩ := I.ptr hI
  have HS0 := Lib.hid (Ins.start hI)
  have HV := Lib.hid hv
  have HM := Lib.hid hm
  have HT := Lib.hid hT
  have HW : Hid (WfL l ∧ i64R k) := ⟨hw, hk⟩
  have HRD : Hid (0 ≤ rd ∧ rd ≤ 1099511000000) := ⟨h0, h1⟩
  have hn := hT.few
  have HN : Hid (l.length ≤ 65536) := hn
  have HB : Hid (2 * mostI l.length + 1 + 45 * (xh l.length : Int) ≤ splitBd l.length ∧ 0 ≤ mostI l.length ∧ mostI l.length ≤ 1000 ∧ (xh l.length : Int) ≤ 100 ∧ splitI (l.length : Int) = 12 * ((xh l.length : Int) + 2) ∧ t.ht ≤ xh l.length ∧ xh (lowE l k).length ≤ xh l.length ∧ xh (highE l k).length ≤ xh l.length) := by
    have h2 := (xh_spec (n := l.length) (by omega)).2.1
    refine ⟨?_, ?_, ?_, by omega, splitJ hn, hT.ht (by omega), xh_up (low_len l k) (by omega), xh_up (high_len l k) (by omega)⟩ <;> (try unfold splitBd) <;> (try unfold mostI) <;> omega
  have HZ : Hid (A.sz i = (l.length : Int) ∧ A.Idx i ∧ i < 4294967296 ∧ A.cnt i < 4611686018427387904) := ⟨hT.at_.sz hT.agg, hT.idx', hT.idx, cnt_few hv (fun j => Nat.le_trans (hm j) (by decide)) i⟩
  obtain ⟨ol, hol⟩ : ∃ o, l.getLast? = o := ⟨_, rfl⟩
  obtain ⟨og, hog⟩ : ∃ o, l.head? = o := ⟨_, rfl⟩
  have HOL := Lib.hid hol
  have HOG := Lib.hid hog
  clear hI hv hm hT hw h0 h1 hk hn hol hog
  go_enter Try.func32, Try.ntmps32
  go_wp2_with fail
  refine (HS0.out.call fun F1 hI1 => (lkImpl I).first w hI1 HT.out HRD.out.1 (by have := HRD.out; omega) (fun y hy => (HW.out.1 y hy).1)).mono ?_
  rintro en w2 ⟨rfl, rd1, hs, r1, r2⟩
  rw [HOG.out]
  have HR1 : Hid (rd ≤ rd1 ∧ rd1 ≤ rd + mostI l.length) := ⟨r1, r2⟩
  unfold enR enA
  have hs1 := hs.box #[Value.int .i64 (og.elim 0 (·.key)), .int .i64 (og.elim 0 (·.val))] 31
  clear hs HS0 r1 r2
  go_upto_region 2 with fail
  generalize w2.alloc (Obj.cells #[Value.int .i64 (og.elim 0 (·.key)), .int .i64 (og.elim 0 (·.val))] 31) = w3 at hs1 ⊢
  generalize w2.heap.size = ga at hs1 ⊢
  have HS1 := Lib.hid hs1
  clear hs1
  go_wp2_with fail
  refine (HS1.out.call fun F1 hI1 => (lkImpl I).last w3 hI1 HT.out (by have := HRD.out; have := HR1.out; omega) (by have := HRD.out; have := HR1.out; have := HB.out; omega) (fun y hy => (HW.out.1 y hy).1)).mono ?_
  rintro en w4 ⟨rfl, rd2, hs, r1, r2⟩
  rw [HOL.out]
  have HR2 : Hid (rd ≤ rd2 ∧ rd2 ≤ rd + 2 * mostI l.length) := ⟨by have := HR1.out; omega, by have := HR1.out; omega⟩
  have hs2 := hs.box #[Value.int .i64 (ol.elim 0 (·.key)), .int .i64 (ol.elim 0 (·.val))] 31
  clear hs HS1 r1 r2
  unfold enR enA
  go_upto_region 3 with fail
  generalize w4.alloc (Obj.cells #[Value.int .i64 (ol.elim 0 (·.key)), .int .i64 (ol.elim 0 (·.val))] 31) = w5 at hs2 ⊢
  generalize w4.heap.size = gb at hs2 ⊢
  have HS2 := Lib.hid hs2
  clear hs2
  cases og with
  | none =>
    have hl : l = [] := List.head?_eq_none_iff.1 HOG.out
    have HQ : Hid (SplitQ A rd held i l k (.returned (.tuple #[.int .u32 0, .int .i64 0, .bool false, .int .u32 0, .int .i64 0])) A rd2) := by
      subst hl
      obtain ⟨m1, m2, m3⟩ := (Mid.start HV.out HT.out.agg).two (x := 0) (y := 0) (.inl rfl) (.inl rfl)
      have e : A.ret 0 = A := if_pos rfl
      rw [e, e] at m1
      refine ⟨HR2.out.1, by have := HR2.out; have := HB.out; omega, .inl ⟨⟨rfl, .inl rfl⟩, 0, 0, .nil, .nil, rfl, m1.got2 (.nil A) (.nil A), fun h => absurd rfl h, fun h => absurd rfl h, rfl⟩⟩
    have HE := Lib.hid HS2.out.ends
    clear hl
    simp only [Option.isSome_none]
    go_wp2_with fail
    refine bodyPost_ret (results_tmp5 rfl _ _ _) rfl ?_
    obtain ⟨F', hal, hI⟩ := HE.out
    exact ⟨F', A, rd2, hal, hI, HQ.out⟩
  | some f =>
  obtain ⟨g, rfl⟩ : ∃ g, ol = some g := by
    cases ol with
    | some g => exact ⟨g, rfl⟩
    | none =>
      have h1 : l = [] := List.getLast?_eq_none_iff.1 HOL.out
      have h2 := HOG.out
      rw [h1] at h2
      cases h2
  simp only [Option.isSome_some]
  obtain ⟨y0, y1⟩ := two_ofE (HS2.out.boxes (ga, Obj.cells #[Value.int .i64 f.key, .int .i64 f.val] 31 (0, 0)) (by simp)).2
  obtain ⟨z0, z1⟩ := two_ofE (HS2.out.boxes (gb, Obj.cells #[Value.int .i64 g.key, .int .i64 g.val] 31 (0, 0)) (by simp)).2
  by_cases hc1 : k < f.key
  · have d1 : decide (k < f.key) = true := decide_eq_true hc1
    have hwl := whole_lo HT.out.up HOG.out hc1
    have HQ : Hid (SplitQ A rd held i l k (.returned (.tuple #[.int .u32 0, .int .i64 0, .bool false, .int .u32 (i : Int), .int .i64 0])) (A.ret i) rd2) := by
      obtain ⟨m1, m2, m3⟩ := (Mid.start HV.out HT.out.agg).two (x := 0) (y := i) (.inl rfl) HZ.out.2.1
      have e : A.ret 0 = A := if_pos rfl
      rw [e] at m1 m2 m3
      refine ⟨HR2.out.1, by have := HR2.out; have := HB.out; omega, .inl ⟨⟨hwl.1, .inl hwl.2.1⟩, 0, i, .nil, t, rfl, ?_, fun h => absurd hwl.2.1 h, fun _ => rfl, by rw [m3]⟩⟩
      rw [hwl.2.1, hwl.2.2]
      exact m1.got2 (.nil _) (HT.out.at_.kept m2)
    clear hwl
    go_wp2_with fail
    refine (HS2.out.retain HZ.out.2.2.1 HZ.out.2.1 HZ.out.2.2.2).mono ?_
    rintro en w6 ⟨rfl, hs6⟩
    have HE := Lib.hid hs6.ends
    clear hs6 HS2 y0 y1 z0 z1
    go_wp2_with fail
    refine bodyPost_ret (results_tmp5 rfl _ _ _) rfl ?_
    obtain ⟨F', hal, hI⟩ := HE.out
    exact ⟨F', A.ret i, rd2, hal, hI, HQ.out⟩
  have d1 : decide (k < f.key) = false := decide_eq_false hc1
  by_cases hc2 : g.key < k
  · have d2 : decide (g.key < k) = true := decide_eq_true hc2
    have hwl := whole_hi HT.out.up HOL.out hc2
    have HQ : Hid (SplitQ A rd held i l k (.returned (.tuple #[.int .u32 (i : Int), .int .i64 0, .bool false, .int .u32 0, .int .i64 0])) (A.ret i) rd2) := by
      obtain ⟨m1, m2, m3⟩ := (Mid.start HV.out HT.out.agg).two (x := i) (y := 0) HZ.out.2.1 (.inl rfl)
      have e : (A.ret i).ret 0 = A.ret i := if_pos rfl
      rw [e] at m1 m2 m3
      refine ⟨HR2.out.1, by have := HR2.out; have := HB.out; omega, .inl ⟨⟨hwl.1, .inr hwl.2.2⟩, i, 0, t, .nil, rfl, ?_, fun _ => rfl, fun h => absurd hwl.2.2 h, by rw [m3]⟩⟩
      rw [hwl.2.1, hwl.2.2]
      exact m1.got2 (HT.out.at_.kept m2) (.nil _)
    clear hwl
    go_wp2_with fail
    refine (HS2.out.retain HZ.out.2.2.1 HZ.out.2.1 HZ.out.2.2.2).mono ?_
    rintro en w6 ⟨rfl, hs6⟩
    have HE := Lib.hid hs6.ends
    clear hs6 HS2 y0 y1 z0 z1
    go_wp2_with fail
    refine bodyPost_ret (results_tmp5 rfl _ _ _) rfl ?_
    obtain ⟨F', hal, hI⟩ := HE.out
    exact ⟨F', A.ret i, rd2, hal, hI, HQ.out⟩
  have d2 : decide (g.key < k) = false := decide_eq_false hc2
  have HNW : Hid (¬ wholeE l k) := not_whole HOG.out HOL.out (by omega) (by omega)
  go_wp2_with fail
  refine HS2.out.free.mono ?_
  rintro en w6 ⟨rfl, hs6⟩
  have HS6 := Lib.hid hs6
  clear hs6 HS2 y0 y1 z0 z1
  go_wp2_with fail
  refine (HS6.out.sz (by have := HRD.out; have := HR2.out; omega) (by have := HRD.out; have := HR2.out; have := HB.out; omega) HZ.out.2.2.1 HZ.out.2.1 HV.out.ok).mono ?_
  rintro en w7 ⟨rfl, hs7⟩
  rw [HZ.out.1]
  obtain ⟨rd3, hrd3⟩ : ∃ r, (rd2 + if i = 0 then 0 else 1) = r := ⟨_, rfl⟩
  have HR3 : Hid (rd ≤ rd3 ∧ rd3 ≤ rd + 2 * mostI l.length + 1) := by
    have := HR2.out
    show rd ≤ rd3 ∧ rd3 ≤ rd + 2 * mostI l.length + 1
    rw [← hrd3]
    split <;> omega
  rw [hrd3] at hs7
  have HS7 := Lib.hid hs7
  clear hs7 HS6 hrd3
  go_wp2_with fail
  refine (rsSplit_any (l.length : Int) w7 (by have := HN.out; unfold in64; omega)).mono ?_
  rintro en w8 ⟨rfl, hb8⟩
  have HS8 := Lib.hid (HS7.out.calm hb8)
  clear hb8 HS7
  by_cases hfr : (A.σ.free.length : Int) < splitI (l.length : Int)
  · have d9 : decide ((A.σ.free.length : Int) < splitI (l.length : Int)) = true := decide_eq_true hfr
    have HQ : Hid (SplitQ A rd held i l k (.returned (.tuple #[.int .u32 0, .int .i64 0, .bool false, .int .u32 0, .int .i64 2])) A rd3) := ⟨HR3.out.1, by have := HR3.out; have := HB.out; omega, .inr (.inl ⟨HNW.out, hfr, rfl, rfl⟩)⟩
    have HE := Lib.hid HS8.out.ends
    go_wp2_with fail
    refine bodyPost_ret (results_tmp5 rfl _ _ _) rfl ?_
    obtain ⟨F', hal, hI⟩ := HE.out
    exact ⟨F', A, rd3, hal, hI, HQ.out⟩
  have d9 : decide ((A.σ.free.length : Int) < splitI (l.length : Int)) = false := decide_eq_false hfr
  have HFR : Hid (splitI (l.length : Int) ≤ (A.σ.free.length : Int)) := by show _ ≤ _; omega
  go_wp2_with fail
  refine (HS8.out.mut fun F1 hI1 => cut_all I (rotImpl I) numJ t w8 ⟨hI1, HV.out, HT.out.agg, fun j => Nat.le_trans (HM.out j) (by decide), HT.out.at_, HT.out.up, HW.out.1, HW.out.2, by have := HN.out; omega, by have := HRD.out; have := HR3.out; omega, by have := HRD.out; have := HR3.out; have := HB.out; omega, by have := HFR.out; have := HB.out; omega⟩).mono ?_
  rintro en w10 ⟨B, rd10, ⟨q0, s, q1, q2, x, y, tx, ty, rfl, q3, q4, q5, q6⟩, hs10⟩
  obtain ⟨V, hV⟩ : ∃ V, (getE l k).elim (0 : Int) (·.val) = V := ⟨_, rfl⟩
  obtain ⟨D, hD⟩ : ∃ D, (getE l k).isSome = D := ⟨_, rfl⟩
  rw [hV, hD]
  have HQ : Hid (SplitQ A rd held i l k (.returned (.tuple #[.int .u32 (x : Int), .int .i64 V, .bool D, .int .u32 (y : Int), .int .i64 0])) B rd10) :=
    ⟨by have := HR3.out; omega, by have := HR3.out; have := HB.out; omega, .inr (.inr ⟨HNW.out, HFR.out, x, y, tx, ty, by rw [hV, hD], q3.got2 q4 q5⟩)⟩
  have hs11 := hs10.box #[Value.int .u32 (x : Int), .int .i64 V, .bool D, .int .u32 (y : Int)] 108
  clear hV hD q0 q1 q2 q3 q4 q5 q6 hs10 HS8
  go_upto_region 12 with fail
  generalize w10.alloc (Obj.cells #[Value.int .u32 (x : Int), .int .i64 V, .bool D, .int .u32 (y : Int)] 108) = w11 at hs11 ⊢
  generalize w10.heap.size = gp at hs11 ⊢
  obtain ⟨⟨p0, p1, p2, p3⟩, -⟩ := cells4_of (hs11.boxes _ (List.Mem.head _)).2
  have HE : Hid (∀ n, ∃ F', Alters F F' w (w11.drewN n) ∧ I.Is (w11.drewN n) (.pointer (some pa)) B rd10 F') := fun n => (hs11.calm (below_drewN (Below.refl _ _) n)).ends
  clear hs11
  go_quiet (fail)
  go_wp2_with fail
  refine bodyPost_ret (results_tmp5 rfl _ _ _) rfl ?_
  obtain ⟨F', hal, hI⟩ := HE.out _
  exact ⟨F', B, rd10, hal, hI, HQ.out⟩
theorem joinImpl (I : AImpl) : JoinImpl I where
  join := fun e w hI hv hm hL hR hwl hwr h0 h1 hk hx => joinP_any I e w hI hv hm hL hR hwl hwr h0 h1 hk hx
  concat := fun w hI hv hm hL hR hwl hwr h0 h1 => concatP_any I w hI hv hm hL hR hwl hwr h0 h1
  split := fun k w hI hv hm hT hw h0 h1 hk => splitP_any I k w hI hv hm hT hw h0 h1 hk
end Go.Proofs.Ytckkmmdibgoajaa
set_option linter.unusedVariables false
set_option linter.unusedSimpArgs false
namespace Go.Proofs.Ytckkmmdibgoajaa
open Go.RowKit
def RelQ (I : AImpl) (w : World) (p : Value) (N : Nat) (R : List Nat) (g : Nat) (o : Obj) (c : Value) (wr : World) : Prop :=
  ∃ (k : Nat) (A : Ar) (rd : Int), c = .int .i64 (k : Int) ∧ k ≤ 4 ∧ A.Inv [] (hof (R.drop k)) ∧ A.Agg ∧ A.σ.cap = N ∧ Scn I w.heap.size w wr p A rd [] [(g, o)]
theorem four_cells {w : World} {g : Nat} {x y z u : Value} {ty : TypeId} (h : w.heap[g]? = some (.cells #[x, y, z, u] ty (0, 0))) : w.cell? ⟨g, 0, none⟩ = some x ∧ w.cell? ⟨g, 1, none⟩ = some y ∧ w.cell? ⟨g, 2, none⟩ = some z ∧ w.cell? ⟨g, 3, none⟩ = some u := by
  refine ⟨?_, ?_, ?_, ?_⟩ <;> (rw [cell_of_row _ _ _ _ _ _ h]; rfl)
set_option maxHeartbeats 8000000 in
set_option maxRecDepth 100000 in
theorem undo_walk (I : AImpl) (K : JoinImpl I) {a : Option Addr} {n c : Nat} {raw : List En} {tilt at_ : Int} {w : World} (hE : EnsAt w a raw) (hn : raw.length = n) (hnm : n ≤ 9223372036854775807) (ht0 : 0 ≤ tilt) (ht1 : tilt < 18446744073709551616) (hat : i64R at_) :
    Calls Try.prog 7 #[.slice a n c, .int .u64 tilt, .int .i64 at_] w (Calm w (.bool true)) := by
  have HK := Lib.hid K
  have HAT := Lib.hid hat
  have HWF : Hid (∀ y ∈ listE raw 150, i64R y.key ∧ i64R y.val) := fun y hy => hE.wf y (listE_mem hy)
  have HL := Lib.hid (list_any (c := c) (k := 150) hE hn hnm (by decide))
  have HT : Hid (0 ≤ tilt ∧ tilt < 18446744073709551616) := ⟨ht0, ht1⟩
  have HUP := Lib.hid (listE_up raw 150)
  have HLEN := Lib.hid (listE_len raw 150)
  clear K hE hn hnm ht0 ht1 hat
  go_enter Try.func7, Try.ntmps7
  go_wp2_with fail
  refine HL.out.mono ?_
  rintro e w1 ⟨a1, c1, rfl, hr1, hb1⟩
  have HR1 := Lib.hid hr1
  have HB1 := Lib.hid hb1
  clear hr1 hb1 HL
  generalize listE raw 150 = l at HUP HLEN HR1 HWF ⊢
  obtain ⟨L, hL⟩ : ∃ L, l.length = L := ⟨_, rfl⟩
  rw [hL] at HLEN HR1 ⊢
  have HLL := Lib.hid hL
  have hLi : (L : Int) ≤ 150 := by have := HLEN.out; omega
  have HE1 := Lib.hid (ens_row hL HR1.out HWF.out)
  have HC1 := Lib.hid (row_caps HR1.out)
  clear hL
  go_wp2_with fail
  refine (grow_any I (sp := 400) (m := L + 400) HE1.out HLL.out HC1.out.1 HC1.out.2 rfl (by omega) (by have := HLEN.out; omega) HT.out.1 HT.out.2).mono ?_
  rintro e w2 ⟨p, A, ri, t, F, rfl, hg⟩
  obtain ⟨pa, rfl⟩ := I.ptr hg.is
  have HTR := Lib.hid (hg.planted.tree HUP.out)
  have HPL := Lib.hid hg.planted
  have HS2 := Lib.hid (Scn.init hg HB1.out HR1.out)
  have hfr : A.σ.free.length = 400 := by
    have h := hg.planted.free
    rw [HLL.out] at h
    have h2 : (Ar.init (L + 400)).σ.free.length = L + 400 := by show (List.range' 1 (L + 400)).length = _; simp
    omega
  have HFR : Hid (A.σ.free.length = 400 ∧ A.σ.cap = L + 400) := ⟨hfr, hg.planted.kept.cap⟩
  have HPI : Hid (pls (fun _ => 0) ri = hof [ri]) := by show _ = _; have := hof_pls [] ri; rw [hof_nil] at this; exact this
  have HHM : Hid (∀ j, pls (fun _ => 0) ri j ≤ 1048000) := fun j => by rw [pls_at]; split <;> omega
  have HRI : Hid (ri < 4294967296) := HTR.out.idx
  clear hg HR1 HE1 HC1 HT hfr
  go_wp2_with fail
  refine (awake13_any I HK.out w2).mono ?_
  rintro e w3 ⟨rfl, hb3⟩
  have HS3 := Lib.hid (HS2.out.calm hb3)
  have HB3 := Lib.hid ((HS2.out.calm hb3).below)
  clear hb3 HS2
  by_cases hL0 : L = 0
  · have hl0 : (L : Int) = 0 := by omega
    have hl1 : ((L : Int) == 0) = true := by simp; omega
    clear hL0
    go_wp2_with fail
    go_ret
    exact ⟨rfl, HB3.out⟩
  have hl1 : ((L : Int) == 0) = false := by simp; omega
  have hli : (0 : Int) < (L : Int) := by omega
  have hx6 := Int.emod_nonneg at_ (b := (L : Int)) (by omega)
  have hx7 := Int.emod_lt_of_pos at_ (b := (L : Int)) (by omega)
  obtain ⟨j, hj⟩ := Int.eq_ofNat_of_zero_le hx6
  have hjL : j < L := by omega
  have HMX : Hid (∀ wx, Calls Try.prog 11 #[.int .i64 at_, .int .i64 (L : Int)] wx (fun e w' => e = .returned (.int .i64 (j : Int)) ∧ w' = wx)) := fun wx => (mod_any at_ L wx HAT.out.1 HAT.out.2 (by omega) (by omega)).mono fun e w' ⟨h1, h2⟩ => ⟨by rw [h1, hj], h2.symm⟩
  obtain ⟨e, he⟩ : ∃ e, l[j]? = some e := ⟨_, List.getElem?_eq_getElem (by have := HLL.out; omega)⟩
  have HEM : Hid (e ∈ l) := List.mem_of_getElem? he
  have HEW := Lib.hid (HWF.out e HEM.out)
  have HGE := Lib.hid (getE_found HUP.out HEM.out)
  obtain ⟨b, off, rfl, hb, c0, -⟩ := (ens_row (w := w3) (B := w.heap.size) (c := c1) HLL.out (HS3.out.rows _ (List.mem_singleton.2 rfl)) HWF.out).cell j e he
  have hji : (j : Int) < (L : Int) := by omega
  have hj0 : (0 : Int) ≤ (j : Int) := by omega
  clear he hb hj hjL hx6 hx7 hL0
  go_wp2_with (go_at_call 11; refine (HMX.out _).mono ?_; rintro e wy ⟨rfl, rfl⟩)
  clear c0
  refine (HS3.out.mut fun F hI => HK.out.split e.key _ hI HPL.out.inv HHM.out HTR.out HWF.out (by decide) (by decide) HEW.out.1).mono ?_
  rintro e4 w4 ⟨B, rd4, ⟨h40, h41, hq⟩, hs4⟩
  have HS4 := Lib.hid hs4
  have hsb : splitBd l.length ≤ 10000 := by rw [HLL.out]; have := (xh_spec (n := L) (by omega)).2.1; unfold splitBd; omega
  have HRD4 : Hid (0 ≤ rd4 ∧ rd4 ≤ 10000) := ⟨h40, by omega⟩
  have hspl := split_le (n := (l.length : Int)) (by omega) (by rw [HLL.out]; omega)
  clear hs4 HS3 h40 h41 hsb
  rcases hq with ⟨q1, -⟩ | ⟨-, q2, -⟩ | ⟨-, -, x, y, tx, ty, rfl, hxy⟩
  · exact absurd (q1.1.symm.trans HGE.out) (by simp)
  · exact absurd q2 (by have := HFR.out; omega)
  rw [HGE.out]
  have hlh := low_high HUP.out HGE.out
  have HLH := Lib.hid hlh.1
  have HXY := Lib.hid hxy
  have HTX := Lib.hid (hxy.fst (low_up HUP.out e.key))
  have HTY := Lib.hid (hxy.snd (high_up HUP.out e.key))
  have hln : (lowE l e.key).length + (highE l e.key).length + 1 = L := by
    have := congrArg List.length hlh.1
    rw [List.length_append, List.length_cons, HLL.out] at this
    omega
  have HI3 : Hid (B.Inv [] (hof [ri, x, y])) := by
    have := hxy.inv
    rw [HPI.out, hof_pls, hof_pls] at this
    exact this
  have hfb : 251 ≤ B.σ.free.length := by
    have h2 := HI3.out.used hxy.agg (ts := [t, tx, ty]) (fun z hz => by
      simp at hz
      rcases hz with rfl | rfl | rfl
      · exact ⟨t, by simp, HPL.out.sub.kept hxy.kept⟩
      · exact ⟨tx, by simp, hxy.sub⟩
      · exact ⟨ty, by simp, hxy.sub2⟩)
    simp at h2
    have h3 := HTR.out.size
    have h4 := HTX.out.size
    have h5 := HTY.out.size
    have h6 := hxy.kept.cap
    have h7 := HFR.out.2
    rw [HLL.out] at h3
    omega
  have HFB := Lib.hid hfb
  have HHX : Hid (∀ z, pls (pls (pls (fun _ => 0) ri) x) y z ≤ 1048000) := fun z => by rw [pls_at, pls_at, pls_at]; split <;> split <;> split <;> omega
  have HJN := Lib.hid (join_le (l := ((lowE l e.key).length : Int)) (r := ((highE l e.key).length : Int)) (by omega) (by omega) (by omega))
  have HJB : Hid (joinBd (lowE l e.key).length (highE l e.key).length ≤ 10000) := by show _ ≤ _; have := (xh_spec (n := (lowE l e.key).length + (highE l e.key).length + 1) (by omega)).2.1; unfold joinBd; omega
  have HXI : Hid (x < 4294967296 ∧ y < 4294967296) := ⟨HTX.out.idx, HTY.out.idx⟩
  clear hlh hxy hln hfb hspl
  go_wp2_with fail
  refine (HS4.out.mut fun F hI => HK.out.join e _ hI HXY.out.inv HHX.out HTX.out HTY.out (low_wf HWF.out _) (high_wf HWF.out _) HRD4.out.1 (by have := HRD4.out; omega) HEW.out.1 HEW.out.2).mono ?_
  rintro e5 w5 ⟨C, rd5, ⟨h50, h51, hq⟩, hs5⟩
  have HS5 := Lib.hid hs5
  clear hs5 HS4 h50 h51
  rcases hq with ⟨q1, -⟩ | ⟨-, q2, -⟩ | ⟨-, -, i, ti, rfl, hi, -⟩
  · exact absurd ⟨low_lt l e.key, high_gt l e.key⟩ q1
  · exact absurd q2 (by have := HJN.out; have := HFB.out; omega)
  rw [HLH.out] at hi
  have HTI := Lib.hid (hi.tree HUP.out)
  have HI4 : Hid (C.Inv [] (hof [ri, x, y, i]) ∧ C.Agg ∧ C.σ.cap = L + 400) := by
    refine ⟨?_, hi.agg, by rw [hi.kept.cap, HXY.out.kept.cap, HFR.out.2]⟩
    have := hi.inv
    rw [HPI.out, hof_pls, hof_pls, hof_pls] at this
    exact this
  have HII : Hid (i < 4294967296) := HTI.out.idx
  clear hi HFB HJN HJB HHX HXY HTX HTY
  go_wp2_with fail
  refine (tree13_any HS5.out HI4.out.1 HTI.out (ens_row (w := w5) (B := w.heap.size) (c := c1) HLL.out (HS5.out.rows _ (List.mem_singleton.2 rfl)) HWF.out) HLL.out (by have := HLEN.out; omega)).mono ?_
  rintro e6 w6 ⟨rfl, hb6⟩
  have hs6 := ((HS5.out.calm hb6).less (rs' := []) (List.nil_sublist _) (List.Sublist.refl _)).box #[.int .u32 (ri : Int), .int .u32 (x : Int), .int .u32 (y : Int), .int .u32 (i : Int)] 26
  clear hb6 HS5
  go_upto_region 13 with fail
  generalize w6.alloc (.cells #[.int .u32 (ri : Int), .int .u32 (x : Int), .int .u32 (y : Int), .int .u32 (i : Int)] 26) = w7 at hs6 ⊢
  generalize w6.heap.size = g at hs6 ⊢
  have HR : Hid (RelQ I w (.pointer (some pa)) (L + 400) [ri, x, y, i] g (.cells #[.int .u32 (ri : Int), .int .u32 (x : Int), .int .u32 (y : Int), .int .u32 (i : Int)] 26 (0, 0)) (.int .i64 0) w7) := ⟨0, C, rd5, rfl, by decide, HI4.out.1, HI4.out.2.1, HI4.out.2.2, hs6⟩
  clear hs6
  go_loopw [92] (fun c wr => RelQ I w (.pointer (some pa)) (L + 400) [ri, x, y, i] g (.cells #[.int .u32 (ri : Int), .int .u32 (x : Int), .int .u32 (y : Int), .int .u32 (i : Int)] 26 (0, 0)) c wr) (fun c _ => 4 - (intOf c).toNat)
  case atStart => exact HR.out
  case round =>
    clear HR
    obtain ⟨k, D, rd, rfl, hk, hv, ha, hc, hs⟩ := hrel
    have HV := Lib.hid hv
    have HA := Lib.hid ha
    have HC := Lib.hid hc
    have HS := Lib.hid hs
    obtain ⟨u0, u1, u2, u3⟩ := four_cells (hs.boxes (g, _) (List.mem_singleton.2 rfl)).2
    clear hv ha hc hs
    by_cases hk4 : k = 4
    · subst hk4
      have hall : D.σ.free.length = L + 400 := by
        rw [← HC.out]
        refine all_free HV.out.ok (none_held ?_ HA.out)
        have := HV.out
        rwa [show hof ([ri, x, y, i].drop 4) = fun _ => 0 by funext z; simp [hof]] at this
      have HALL := Lib.hid hall
      clear hall hk u0 u1 u2 u3
      go_wp2_with fail
      refine HS.out.free.mono ?_
      rintro e8 w8 ⟨rfl, hs8⟩
      rw [HALL.out]
      have HS8 := Lib.hid hs8
      clear hs8
      go_wp2_with fail
      refine HS8.out.capacity.mono ?_
      rintro e9 w9 ⟨rfl, hs9⟩
      rw [HC.out]
      have HB9 := Lib.hid hs9.below
      clear hs9
      go_wp2_with fail
      go_ret
      exact ⟨by simp, HB9.out⟩
    · have hk5 : k = 0 ∨ k = 1 ∨ k = 2 ∨ k = 3 := by omega
      clear hk hk4
      rcases hk5 with rfl | rfl | rfl | rfl
      · go_wp2_with fail
        refine (HS.out.release HV.out HA.out).mono ?_
        rintro e8 w8 ⟨D', m, rfl, hv', ha', hc', hs'⟩
        have HE : Hid (RelQ I w (.pointer (some pa)) (L + 400) [ri, x, y, i] g (.cells #[.int .u32 (ri : Int), .int .u32 (x : Int), .int .u32 (y : Int), .int .u32 (i : Int)] 26 (0, 0)) (.int .i64 1) w8) := ⟨1, D', rd, rfl, by decide, hv', ha', hc'.trans HC.out, hs'⟩
        clear hv' ha' hc' hs'
        go_wp2_with fail
        exact ⟨HE.out, by simp [intOf]⟩
      · go_wp2_with fail
        refine (HS.out.release HV.out HA.out).mono ?_
        rintro e8 w8 ⟨D', m, rfl, hv', ha', hc', hs'⟩
        have HE : Hid (RelQ I w (.pointer (some pa)) (L + 400) [ri, x, y, i] g (.cells #[.int .u32 (ri : Int), .int .u32 (x : Int), .int .u32 (y : Int), .int .u32 (i : Int)] 26 (0, 0)) (.int .i64 2) w8) := ⟨2, D', rd, rfl, by decide, hv', ha', hc'.trans HC.out, hs'⟩
        clear hv' ha' hc' hs'
        go_wp2_with fail
        exact ⟨HE.out, by simp [intOf]⟩
      · go_wp2_with fail
        refine (HS.out.release HV.out HA.out).mono ?_
        rintro e8 w8 ⟨D', m, rfl, hv', ha', hc', hs'⟩
        have HE : Hid (RelQ I w (.pointer (some pa)) (L + 400) [ri, x, y, i] g (.cells #[.int .u32 (ri : Int), .int .u32 (x : Int), .int .u32 (y : Int), .int .u32 (i : Int)] 26 (0, 0)) (.int .i64 3) w8) := ⟨3, D', rd, rfl, by decide, hv', ha', hc'.trans HC.out, hs'⟩
        clear hv' ha' hc' hs'
        go_wp2_with fail
        exact ⟨HE.out, by simp [intOf]⟩
      · go_wp2_with fail
        refine (HS.out.release HV.out HA.out).mono ?_
        rintro e8 w8 ⟨D', m, rfl, hv', ha', hc', hs'⟩
        have HE : Hid (RelQ I w (.pointer (some pa)) (L + 400) [ri, x, y, i] g (.cells #[.int .u32 (ri : Int), .int .u32 (x : Int), .int .u32 (y : Int), .int .u32 (i : Int)] 26 (0, 0)) (.int .i64 4) w8) := ⟨4, D', rd, rfl, by decide, hv', ha', hc'.trans HC.out, hs'⟩
        clear hv' ha' hc' hs'
        go_wp2_with fail
        exact ⟨HE.out, by simp [intOf]⟩
end Go.Proofs.Ytckkmmdibgoajaa
