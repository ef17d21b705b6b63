/- Of the proofs of BulkCuts, BulkPartsJoin: JnOk, BkOk4, BkOk4b, BkPl. -/
import Derived.Test.YtnimbgcploohiaaGreatPk1
import Derived.Test.YtnimbgcploohiaaGreatPk2
import Derived.Test.YtnimbgcploohiaaGreatPk3
import Derived.Test.YtnimbgcploohiaaGreatPk4
import Derived.Test.YtnimbgcploohiaaGreatPk5
import Derived.Test.YtnimbgcploohiaaGreatPk6
import Derived.Test.YtnimbgcploohiaaGreatPk7
import Derived.Test.YtnimbgcploohiaaGreatPk8
import Derived.Test.YtnimbgcploohiaaGreatPk9
import Derived.Test.YtnimbgcploohiaaGreatPk10
import Derived.Test.YtnimbgcploohiaaGreatPk11
import Derived.Test.YtnimbgcploohiaaGreatPk12
set_option linter.unusedVariables false
set_option linter.unusedSimpArgs false
namespace Go.Proofs.YtnimbgcploohiaaGreat
open Go.RowKit
theorem allLtJ {l : List En} (hu : Up l) (k : Int) : AllLt l k ↔ ∀ x, l.getLast? = some x → x.key < k := by
  constructor
  · intro h x hx
    exact h x (List.mem_of_getLast? hx)
  · intro h y hy
    obtain ⟨x, hx⟩ : ∃ x, l.getLast? = some x := ⟨_, List.getLast?_eq_some_getLast (fun e => by rw [e] at hy; cases hy)⟩
    have h0 := h x hx
    obtain ⟨i, hi, rfl⟩ := List.mem_iff_getElem.1 hy
    rw [List.getLast?_eq_getElem?] at hx
    obtain ⟨hj, rfl⟩ := List.getElem?_eq_some_iff.1 hx
    rcases Nat.lt_or_ge i (l.length - 1) with h2 | h2
    · have := List.pairwise_iff_getElem.1 hu i (l.length - 1) hi hj h2; omega
    · have h3 : i = l.length - 1 := by omega
      subst h3; exact h0
theorem allGtJ {l : List En} (hu : Up l) (k : Int) : AllGt l k ↔ ∀ x, l.head? = some x → k < x.key := by
  constructor
  · intro h x hx
    exact h x (List.mem_of_mem_head? hx)
  · intro h y hy
    cases l with
    | nil => cases hy
    | cons z t =>
      have h0 := h z rfl
      rcases List.mem_cons.1 hy with rfl | hy
      · exact h0
      · have := (List.pairwise_cons.1 hu).1 y hy; omega
theorem splitJ {n : Nat} (hn : n ≤ 65536) : splitI (n : Int) = 12 * ((xh n : Int) + 2) := by
  unfold splitI needI
  have hv : vld (n : Int) ∧ vld 0 ∧ vld 0 := by unfold vld; omega
  rw [if_pos hv, show (n : Int) + 0 + 0 + 0 = (n : Int) by omega, xhI_nat (by omega)]
  omega
/-- what Join answers, how many slots it takes and how often it reads -/
def JoinS (A : Ar) (rd : Int) (held : Nat → Nat) (L R : Nat) (tl tr : Tr) (ll lr : List En) (e : En) (en : Ending) (B : Ar) (rd' : Int) : Prop :=
  JoinQ A rd held L R ll lr e en B rd' ∧ A.σ.free.length ≤ B.σ.free.length + 3 * jd tl tr + 1 ∧ rd' ≤ rd + (tl.ht : Int) + (tr.ht : Int) + 4 + 14 * (jd tl tr : Int)
set_option maxHeartbeats 32000000 in
set_option maxRecDepth 100000 in
theorem joinS_any (I : AImpl) {p : Value} {A : Ar} {rd : Int} {F : Nat → Prop} {held : Nat → Nat} {L R : Nat} {tl tr : Tr} {ll lr : List En} (e : En) (w : World) (hI : I.Is w p A rd F) (hv : A.Inv [] held) (hm : ∀ j, held j ≤ 1048200) (hL : TreeAt A L tl ll) (hR : TreeAt A R tr lr) (hwl : WfL ll) (hwr : WfL lr) (h0 : 0 ≤ rd) (h1 : rd ≤ 1099511000000) (hk : i64R e.key) (hx : i64R e.val) :
    Calls Tryz.prog 105 #[p, .int .u32 (L : Int), .agg #[.int .i64 e.key, .int .i64 e.val], .int .u32 (R : Int)] w (Mut I p F (JoinS A rd held L R tl tr ll lr e) w) := by
  obtain ⟨pa, rfl⟩ := I.ptr hI
  have hs0 := (Ins.start hI).box #[Value.int .i64 e.key, .int .i64 e.val] 34
  have HV := Lib.hid hv
  have HM := Lib.hid hm
  have HL := Lib.hid hL
  have HR := Lib.hid hR
  have HW : Hid (WfL ll ∧ WfL lr ∧ i64R e.key ∧ i64R e.val) := ⟨hwl, hwr, hk, hx⟩
  have HRD : Hid (0 ≤ rd ∧ rd ≤ 1099511000000) := ⟨h0, h1⟩
  have hn := hL.few
  have ht1 := hL.ht (by omega)
  have hm' := hR.few
  have ht2 := hR.ht (by omega)
  have x1 := xh_up (m := ll.length) (n := ll.length + lr.length + 1) (by omega) (by omega)
  have x2 := xh_up (m := lr.length) (n := ll.length + lr.length + 1) (by omega) (by omega)
  have HN : Hid (ll.length ≤ 65536 ∧ lr.length ≤ 65536) := ⟨hn, hm'⟩
  have HJ : Hid (jd tl tr ≤ xh (ll.length + lr.length + 1)) := by
    have := jd_xh hL.bal hR.bal (by rw [hL.size, hR.size]; omega)
    rw [hL.size, hR.size] at this
    exact this
  have HB : Hid ((tl.ht : Int) + (tr.ht : Int) + 2 + 14 * (jd tl tr : Int) + 2 ≤ joinBd ll.length lr.length ∧ 0 ≤ (tl.ht : Int) ∧ 0 ≤ (tr.ht : Int) ∧ (tl.ht : Int) ≤ 1000 ∧ (tr.ht : Int) ≤ 1000 ∧ (jd tl tr : Int) ≤ 100 ∧ joinI (ll.length : Int) (lr.length : Int) = 4 * ((xh (ll.length + lr.length + 1) : Int) + 2)) := by
    have h1 := HJ.out
    have h2 := (xh_spec (n := ll.length + lr.length + 1) (by omega)).2.1
    refine ⟨?_, ?_, ?_, ?_, ?_, by omega, joinJ hn hm'⟩ <;> (try unfold joinBd) <;> omega
  have HZ : Hid (A.sz L = (ll.length : Int) ∧ A.sz R = (lr.length : Int) ∧ A.Idx L ∧ A.Idx R ∧ L < 4294967296 ∧ R < 4294967296) := ⟨hL.at_.sz hL.agg, hR.at_.sz hL.agg, hL.idx', hR.idx', hL.idx, hR.idx⟩
  have hlt := allLtJ hL.up e.key
  have hgt := allGtJ hR.up e.key
  obtain ⟨ol, hol⟩ : ∃ o, ll.getLast? = o := ⟨_, rfl⟩
  obtain ⟨og, hog⟩ : ∃ o, lr.head? = o := ⟨_, rfl⟩
  rw [hol] at hlt
  rw [hog] at hgt
  have HOL := Lib.hid hol
  have HOG := Lib.hid hog
  have HLT := Lib.hid hlt
  have HGT := Lib.hid hgt
  clear hI hv hm hL hR hwl hwr h0 h1 hk hx hn hm' ht1 ht2 hlt hgt hol hog x1 x2
  go_enter Tryz.func105, Tryz.ntmps105
  go_upto_region 1 with fail
  generalize w.alloc (Obj.cells #[Value.int .i64 e.key, .int .i64 e.val] 34) = w1 at hs0 ⊢
  generalize w.heap.size = ge at hs0 ⊢
  have HS0 := Lib.hid hs0
  clear hs0
  go_wp2_with fail
  refine (HS0.out.call fun F1 hI1 => lastH_any I (tl.ht : Int) w1 hI1 HL.out HRD.out.1 (by have := HRD.out; omega) (Int.le_refl _) (fun y hy => (HW.out.1 y hy).1)).mono ?_
  rintro en w2 ⟨rfl, rd1, hs, r1, r2⟩
  rw [HOL.out]
  have HR1 : Hid (rd ≤ rd1 ∧ rd1 ≤ rd + (tl.ht : Int)) := ⟨r1, r2⟩
  unfold enR enA
  have hs1 := hs.box #[Value.int .i64 (ol.elim 0 (·.key)), .int .i64 (ol.elim 0 (·.val))] 34
  clear hs HS0 r1 r2
  go_upto_region 2 with fail
  generalize w2.alloc (Obj.cells #[Value.int .i64 (ol.elim 0 (·.key)), .int .i64 (ol.elim 0 (·.val))] 34) = w3 at hs1 ⊢
  generalize w2.heap.size = ga at hs1 ⊢
  have HS1 := Lib.hid hs1
  clear hs1
  go_wp2_with fail
  refine (HS1.out.call fun F1 hI1 => firstH_any I (tr.ht : Int) w3 hI1 HR.out (by have := HRD.out; have := HR1.out; omega) (by have := HRD.out; have := HR1.out; have := HB.out; omega) (Int.le_refl _) (fun y hy => (HW.out.2.1 y hy).1)).mono ?_
  rintro en w4 ⟨rfl, rd2, hs, r1, r2⟩
  rw [HOG.out]
  have HR2 : Hid (rd ≤ rd2 ∧ rd2 ≤ rd + (tl.ht : Int) + (tr.ht : Int)) := ⟨by have := HR1.out; omega, by have := HR1.out; omega⟩
  have hs2 := hs.box #[Value.int .i64 (og.elim 0 (·.key)), .int .i64 (og.elim 0 (·.val))] 34
  clear hs HS1 r1 r2
  unfold enR enA
  go_upto_region 3 with fail
  generalize w4.alloc (Obj.cells #[Value.int .i64 (og.elim 0 (·.key)), .int .i64 (og.elim 0 (·.val))] 34) = w5 at hs2 ⊢
  generalize w4.heap.size = gb at hs2 ⊢
  have HS2 := Lib.hid hs2
  clear hs2
  obtain ⟨y0, y1⟩ := two_ofE (HS2.out.boxes (ge, Obj.cells #[Value.int .i64 e.key, .int .i64 e.val] 34 (0, 0)) (by simp)).2
  obtain ⟨z0, z1⟩ := two_ofE (HS2.out.boxes (gb, Obj.cells #[Value.int .i64 (og.elim 0 (·.key)), .int .i64 (og.elim 0 (·.val))] 34 (0, 0)) (by simp)).2
  obtain ⟨u0, u1⟩ := two_ofE (HS2.out.boxes (ga, Obj.cells #[Value.int .i64 (ol.elim 0 (·.key)), .int .i64 (ol.elim 0 (·.val))] 34 (0, 0)) (by simp)).2
  obtain ⟨KL, hKL⟩ : ∃ K, ol.elim (0 : Int) (·.key) = K := ⟨_, rfl⟩
  obtain ⟨KG, hKG⟩ : ∃ K, og.elim (0 : Int) (·.key) = K := ⟨_, rfl⟩
  obtain ⟨BL, hBL⟩ : ∃ K, ol.isSome = K := ⟨_, rfl⟩
  obtain ⟨BG, hBG⟩ : ∃ K, og.isSome = K := ⟨_, rfl⟩
  rw [hKL] at u0
  rw [hKG] at z0
  rw [hBL, hBG]
  have HLTB : Hid (AllLt ll e.key ↔ (BL = true → KL < e.key)) := by
    have h := HLT.out
    refine h.trans ?_
    cases ol with
    | none => simp at hBL; subst hBL; simp
    | some x => simp at hBL hKL; subst hBL hKL; simp
  have HGTB : Hid (AllGt lr e.key ↔ (BG = true → e.key < KG)) := by
    have h := HGT.out
    refine h.trans ?_
    cases og with
    | none => simp at hBG; subst hBG; simp
    | some x => simp at hBG hKG; subst hBG hKG; simp
  clear hKL hKG hBL hBG
  have HEND := Lib.hid HS2.out.ends
  have hcase : (BL = true ∧ e.key ≤ KL) ∨ ((BL = true ∧ KL < e.key) ∧ (BG = true ∧ KG ≤ e.key)) ∨ (BL = false ∧ (BG = true ∧ KG ≤ e.key)) ∨ ((BL = true ∧ KL < e.key) ∧ (BG = true ∧ e.key < KG)) ∨ ((BL = true ∧ KL < e.key) ∧ BG = false) ∨ (BL = false ∧ (BG = true ∧ e.key < KG)) ∨ (BL = false ∧ BG = false) := by
    cases BL <;> cases BG <;> simp <;> omega
  have HBAD : Hid (¬ (AllLt ll e.key ∧ AllGt lr e.key) → ∀ rdx, rd ≤ rdx → rdx ≤ rd + (tl.ht : Int) + (tr.ht : Int) → JoinS A rd held L R tl tr ll lr e (.returned (.tuple #[.int .u32 0, .int .i64 7])) A rdx) := fun hn rdx h1 h2 => ⟨⟨h1, by have := HB.out; omega, .inl ⟨hn, rfl, rfl⟩⟩, by omega, by omega⟩
  have HRB : Hid (rd ≤ rd2 ∧ rd2 ≤ rd + (tl.ht : Int) + (tr.ht : Int)) := HR2.out
  rcases hcase with ⟨rfl, hq⟩ | ⟨⟨rfl, hq⟩, rfl, hq2⟩ | ⟨rfl, rfl, hq2⟩ | hgood
  · have HQ : Hid (¬ (AllLt ll e.key ∧ AllGt lr e.key)) := fun h => by have := (HLTB.out.1 h.1) rfl; omega
    have d1 : decide (e.key ≤ KL) = true := decide_eq_true hq
    go_wp2_with fail
    go_ret2
    obtain ⟨F', hal, hI⟩ := HEND.out
    exact ⟨F', A, rd2, hal, hI, HBAD.out HQ.out rd2 HRB.out.1 HRB.out.2⟩
  · have HQ : Hid (¬ (AllLt ll e.key ∧ AllGt lr e.key)) := fun h => by have := (HGTB.out.1 h.2) rfl; omega
    have d1 : decide (e.key ≤ KL) = false := decide_eq_false (by omega)
    have d2 : decide (KG ≤ e.key) = true := decide_eq_true hq2
    have d3 : ¬ e.key ≤ KL := by omega
    go_wp2_with fail
    go_ret2
    obtain ⟨F', hal, hI⟩ := HEND.out
    exact ⟨F', A, rd2, hal, hI, HBAD.out HQ.out rd2 HRB.out.1 HRB.out.2⟩
  · have HQ : Hid (¬ (AllLt ll e.key ∧ AllGt lr e.key)) := fun h => by have := (HGTB.out.1 h.2) rfl; omega
    have d2 : decide (KG ≤ e.key) = true := decide_eq_true hq2
    go_wp2_with fail
    go_ret2
    obtain ⟨F', hal, hI⟩ := HEND.out
    exact ⟨F', A, rd2, hal, hI, HBAD.out HQ.out rd2 HRB.out.1 HRB.out.2⟩
  have HOK : Hid (AllLt ll e.key ∧ AllGt lr e.key) := by
    refine ⟨HLTB.out.2 fun h => ?_, HGTB.out.2 fun h => ?_⟩
    · rcases hgood with ⟨⟨q1, q2⟩, q3⟩ | ⟨⟨q1, q2⟩, q3⟩ | ⟨q1, q3⟩ | ⟨q1, q3⟩
      · exact q2
      · exact q2
      · rw [q1] at h; cases h
      · rw [q1] at h; cases h
    · rcases hgood with ⟨q3, q1, q2⟩ | ⟨q3, q1⟩ | ⟨q3, q1, q2⟩ | ⟨q3, q1⟩
      · exact q2
      · rw [q1] at h; cases h
      · exact q2
      · rw [q1] at h; cases h
  have HGL : Hid (ll.length + lr.length + 1 ≤ 2147483647) := by have := HN.out; show _ ≤ _; omega
  clear HBAD HLTB HGTB HEND
  rcases hgood with ⟨⟨rfl, hq⟩, rfl, hq2⟩ | ⟨⟨rfl, hq⟩, rfl⟩ | ⟨rfl, rfl, hq2⟩ | ⟨rfl, rfl⟩
  case' inl => have d1 : decide (e.key ≤ KL) = false := decide_eq_false (by omega)
  case' inl => have d3 : ¬ e.key ≤ KL := by omega
  case' inl => have d2 : decide (KG ≤ e.key) = false := decide_eq_false (by omega)
  case' inl => have d4 : ¬ KG ≤ e.key := by omega
  case' inr.inl => have d1 : decide (e.key ≤ KL) = false := decide_eq_false (by omega)
  case' inr.inl => have d3 : ¬ e.key ≤ KL := by omega
  case' inr.inr.inl => have d2 : decide (KG ≤ e.key) = false := decide_eq_false (by omega)
  case' inr.inr.inl => have d4 : ¬ KG ≤ e.key := by omega
  all_goals
    go_wp2_with fail
    refine HS2.out.free.mono ?_
    rintro en w6 ⟨rfl, hs6⟩
    have HS6 := Lib.hid hs6
    clear hs6
    go_wp2_with fail
    refine (HS6.out.sz (by have := HRD.out; have := HR2.out; omega) (by have := HRD.out; have := HR2.out; have := HB.out; omega) HZ.out.2.2.2.2.1 HZ.out.2.2.1 HV.out.ok).mono ?_
    rintro en w7 ⟨rfl, hs7⟩
    rw [HZ.out.1]
    have HS7 := Lib.hid hs7
    clear hs7
    go_wp2_with fail
    refine (HS7.out.sz (by have := HRD.out; have := HR2.out; (repeat' split) <;> omega) (by have := HRD.out; have := HR2.out; have := HB.out; (repeat' split) <;> omega) HZ.out.2.2.2.2.2 HZ.out.2.2.2.1 HV.out.ok).mono ?_
    rintro en w8 ⟨rfl, hs8⟩
    rw [HZ.out.2.1]
    obtain ⟨rd3, hrd3⟩ : ∃ r, (rd2 + if L = 0 then 0 else 1) + (if R = 0 then 0 else 1) = r := ⟨_, rfl⟩
    have HR3 : Hid (rd ≤ rd3 ∧ rd3 ≤ rd + (tl.ht : Int) + (tr.ht : Int) + 2) := by
      have := HR2.out
      show rd ≤ rd3 ∧ rd3 ≤ rd + (tl.ht : Int) + (tr.ht : Int) + 2
      rw [← hrd3]
      (repeat' split) <;> omega
    rw [hrd3] at hs8
    have HS8 := Lib.hid hs8
    clear hs8 hrd3
    go_wp2_with fail
    refine (rsJoin_any (ll.length : Int) (lr.length : Int) w8 (by have := HN.out; unfold in64; omega) (by have := HN.out; unfold in64; omega)).mono ?_
    rintro en w9 ⟨rfl, hb9⟩
    have HS9 := Lib.hid (HS8.out.calm hb9)
    clear hb9
    by_cases hfr : (A.σ.free.length : Int) < joinI (ll.length : Int) (lr.length : Int)
    · have d9 : decide ((A.σ.free.length : Int) < joinI (ll.length : Int) (lr.length : Int)) = true := decide_eq_true hfr
      have HQ : Hid (JoinS A rd held L R tl tr ll lr e (.returned (.tuple #[.int .u32 0, .int .i64 2])) A rd3) := ⟨⟨HR3.out.1, by have := HR3.out; have := HB.out; omega, .inr (.inl ⟨HOK.out, hfr, rfl, rfl⟩)⟩, by omega, by have := HR3.out; omega⟩
      have HE := Lib.hid HS9.out.ends
      go_wp2_with fail
      go_ret2
      obtain ⟨F', hal, hI⟩ := HE.out
      exact ⟨F', A, rd3, hal, hI, HQ.out⟩
    have d9 : decide ((A.σ.free.length : Int) < joinI (ll.length : Int) (lr.length : Int)) = false := decide_eq_false hfr
    have HFR : Hid (joinI (ll.length : Int) (lr.length : Int) ≤ (A.σ.free.length : Int)) := by show _ ≤ _; omega
    obtain ⟨v0, v1⟩ := two_ofE (HS9.out.boxes (ge, Obj.cells #[Value.int .i64 e.key, .int .i64 e.val] 34 (0, 0)) (by simp)).2
    go_wp2_with fail
    refine (HS9.out.mut fun F1 hI1 => link_all I (rotImpl I) numJ _ e w9 ⟨hI1, HV.out, HL.out.agg, fun j => Nat.le_trans (HM.out j) (by decide), HL.out.at_, HR.out.at_, HW.out.1, HW.out.2.1, HW.out.2.2, HGL.out, by have := HRD.out; have := HR3.out; omega, by have := HRD.out; have := HR3.out; have := HB.out; omega, by have := HFR.out; have := HB.out; have := HJ.out; omega⟩ (Nat.lt_succ_self _)).mono ?_
    rintro en w10 ⟨B, rd10, ⟨q0, q1, j, t, rfl, q2, q3, q4, q5⟩, hs10⟩
    have HQ : Hid (JoinS A rd held L R tl tr ll lr e (.returned (.tuple #[.int .u32 (j : Int), .int .i64 0])) B rd10) :=
      ⟨⟨by have := HR3.out; omega, by have := HR3.out; have := HB.out; omega, .inr (.inr ⟨HOK.out, HFR.out, j, t, rfl, q2.got q3, fun hb => q5 (bal_wb hb)⟩)⟩, by omega, by have := HR3.out; omega⟩
    have HE := Lib.hid hs10.ends
    clear q0 q1 q2 q3 q4 q5 hs10
    go_wp2_with fail
    go_ret2
    obtain ⟨F', hal, hI⟩ := HE.out
    exact ⟨F', B, rd10, hal, hI, HQ.out⟩
end Go.Proofs.YtnimbgcploohiaaGreat
set_option linter.unusedVariables false
set_option linter.unusedSimpArgs false
namespace Go.Proofs.YtnimbgcploohiaaGreat
open Go.RowKit
/-- the second index of a path -/
def leads (P : List Nat) (c : Nat) : Bool := match P with
  | _ :: y :: _ => decide (y = c)
  | _ => false
theorem PathAt.second {w : World} {F : Nat → Prop} {a : Option Addr} {c x y : Nat} {P : List Nat} (h : PathAt w F a c (x :: y :: P)) : ∃ g o, a = some ⟨g, o, none⟩ ∧ w.cell? ⟨g, o + 1, none⟩ = some (.int .u32 (y : Int)) := by
  rcases h.2 with h2 | ⟨g, o, rfl, h3, h4, h5⟩
  · cases h2
  · exact ⟨g, o, rfl, h5 1 y rfl⟩
set_option maxRecDepth 100000 in
theorem leads_any {w : World} {F : Nat → Prop} {a : Option Addr} {c n x : Nat} {P : List Nat} (h : PathAt w F a c P) (hn : P.length = n) (hn6 : n ≤ 1000000) :
    Calls Tryz.prog 80 #[.slice a n c, .int .u32 (x : Int)] w (Calm w (.bool (leads P x))) := by
  have hb := Below.refl w.heap.size w
  have HB := Lib.hid hb
  clear hb
  match P, h, hn with
  | [], h, hn =>
    simp at hn
    subst hn
    clear h
    go_enter Tryz.func80, Tryz.ntmps80
    go_wp2_with fail
    go_ret
    exact ⟨rfl, HB.out⟩
  | [y], h, hn =>
    simp at hn
    subst hn
    clear h
    go_enter Tryz.func80, Tryz.ntmps80
    go_wp2_with fail
    go_ret
    exact ⟨rfl, HB.out⟩
  | y :: z :: P, h, hn =>
    obtain ⟨g, off, rfl, c1⟩ := h.second
    have hn2 : (1 : Int) < (n : Int) := by simp at hn; omega
    have hn3 : decide ((n : Int) > 1) = true := decide_eq_true hn2
    have hn4 : 1 < n := by omega
    have hn5 : decide ((1 : Int) < (n : Int)) = true := decide_eq_true hn2
    clear h hn
    by_cases hzx : z = x
    · subst hzx
      have hE : Hid (leads (y :: z :: P) z = true) := by show _ = _; unfold leads; simp
      go_enter Tryz.func80, Tryz.ntmps80
      go_wp2_with fail
      go_ret
      exact ⟨by rw [hE.out]; simp, HB.out⟩
    · have hE : Hid (leads (y :: z :: P) x = false) := by show _ = _; unfold leads; simp [hzx]
      have q1 : ((z : Int) == (x : Int)) = false := by simp; omega
      have q2 : ¬ (z : Int) = (x : Int) := by omega
      go_enter Tryz.func80, Tryz.ntmps80
      go_wp2_with fail
      go_ret
      exact ⟨by rw [hE.out]; simp [hzx], HB.out⟩
/-- what withSubtrees answers -/
def WsQ (A : Ar) (rd : Int) (held : Nat → Nat) (tl tr : Tr) (l : List En) (en : Ending) (B : Ar) (rd' : Int) : Prop :=
  rd ≤ rd' ∧ rd' ≤ rd + (tl.ht : Int) + (tr.ht : Int) + 5 + 14 * (jd tl tr : Int) ∧ ∃ (j : Nat) (t : Tr), en = .returned (.tuple #[.int .u32 (j : Int), .int .i64 0]) ∧ Mid A held B [j] ∧ At B j t l ∧ A.σ.free.length ≤ B.σ.free.length + 3 * jd tl tr + 1
structure WsP (I : AImpl) (w : World) (p : Value) (A : Ar) (rd : Int) (F : Nat → Prop) (held : Nat → Nat) (x L R : Nat) (X : Nd) (tx tl tr : Tr) (lx ll lr : List En) : Prop where
  is : I.Is w p A rd F
  inv : A.Inv [] held
  agg : A.Agg
  few : ∀ j, held j ≤ 1048200
  at_ : At A x tx lx
  nz : x ≠ 0
  nd : A.nd x = X
  left : At A L tl ll
  right : At A R tr lr
  up : Up (ll ++ ⟨X.key, X.val⟩ :: lr)
  wf : WfL (ll ++ ⟨X.key, X.val⟩ :: lr)
  rd0 : 0 ≤ rd
  rd1 : rd ≤ 1099510900000
  room : joinI (ll.length : Int) (lr.length : Int) ≤ (A.σ.free.length : Int)
theorem TreeAt.of {A : Ar} {i : Nat} {t : Tr} {l : List En} {held : Nat → Nat} (h : At A i t l) (hv : A.Inv [] held) (ha : A.Agg) (hu : Up l) : TreeAt A i t l := ⟨⟨_, hv⟩, ha, h.sub, h.bal, h.ents, hu⟩
theorem Got.midB {A B : Ar} {held : Nat → Nat} {j : Nat} {t : Tr} {l : List En} (h : Got A held B j t l) (hv : A.Inv [] held) (ha : A.Agg) : Mid A held B [j] ∧ At B j t l :=
  ⟨⟨hv, ha, h.kept, h.gen, by rw [plL_cons, plL_nil]; exact h.inv, h.agg⟩, h.sub, h.bal, h.ents⟩
theorem At.same {A : Ar} {i : Nat} {t u : Tr} {l m : List En} (h : At A i t l) (h' : At A i u m) : t = u ∧ l = m := by
  have e := h.sub.unique h'.sub
  subst e
  exact ⟨rfl, h.ents.symm.trans h'.ents⟩
set_option maxHeartbeats 16000000 in
set_option maxRecDepth 100000 in
theorem with_any (I : AImpl) {p : Value} {A : Ar} {rd : Int} {F : Nat → Prop} {held : Nat → Nat} {x L R : Nat} {X : Nd} {tx tl tr : Tr} {lx ll lr : List En} (w : World) (hP : WsP I w p A rd F held x L R X tx tl tr lx ll lr) :
    Calls Tryz.prog 81 #[p, .int .u32 (x : Int), .int .u32 (L : Int), .int .u32 (R : Int)] w (Mut I p F (WsQ A rd held tl tr (ll ++ ⟨X.key, X.val⟩ :: lr)) w) := by
  obtain ⟨pa, rfl⟩ := I.ptr hP.is
  have HS0 := Lib.hid (Ins.start hP.is)
  have hup := up_app hP.up
  have HTL := Lib.hid (TreeAt.of hP.left hP.inv hP.agg hup.1)
  have HTR := Lib.hid (TreeAt.of hP.right hP.inv hP.agg hup.2.1)
  have HLG : Hid (AllLt ll X.key ∧ AllGt lr X.key) := ⟨hup.2.2.1, hup.2.2.2⟩
  have HW : Hid (WfL ll ∧ WfL lr ∧ i64R X.key ∧ i64R X.val) := ⟨hP.wf.left, hP.wf.right.tail, hP.wf (⟨X.key, X.val⟩ : En) (by simp)⟩
  have HN : Hid (A.σ.on x = true ∧ x < 4294967296 ∧ A.nd x = X ∧ x ≠ 0) := ⟨hP.at_.idx.resolve_left hP.nz, idx_lt32B hP.inv hP.at_.idx, hP.nd, hP.nz⟩
  have HI : Hid (A.Inv [] held ∧ A.Agg ∧ (∀ j, held j ≤ 1048200) ∧ joinI (ll.length : Int) (lr.length : Int) ≤ (A.σ.free.length : Int)) := ⟨hP.inv, hP.agg, hP.few, hP.room⟩
  have HRD : Hid (0 ≤ rd ∧ rd ≤ 1099510900000) := ⟨hP.rd0, hP.rd1⟩
  have HSAME : Hid (X.left = L → X.right = R → At A x tx (ll ++ ⟨X.key, X.val⟩ :: lr)) := fun e1 e2 => by
    obtain ⟨tl', tr', ll', lr', -, hl, hA, hB, -⟩ := hP.at_.split hP.nz
    rw [hP.nd] at hl hA hB
    rw [e1] at hA
    rw [e2] at hB
    rw [(hP.left.same hA).2, (hP.right.same hB).2, ← hl]
    exact hP.at_
  clear hP hup
  go_enter Tryz.func81, Tryz.ntmps81
  go_wp2_with fail
  refine (HS0.out.node HRD.out.1 (by have := HRD.out; omega) HN.out.2.1 HN.out.1).mono ?_
  rintro e w1 ⟨rfl, hs1⟩
  rw [HN.out.2.2.1]
  unfold ndRow
  have hs2 := hs1.box #[Value.int .i64 X.key, .int .i64 X.val, .int .u32 (X.left : Int), .int .u32 (X.right : Int), .int .i64 X.size, .int .i64 X.sum, .int .i64 X.mn, .int .i64 X.mx] 65
  clear hs1 HS0
  go_upto_region 2 with fail
  generalize w1.alloc (Obj.cells #[Value.int .i64 X.key, .int .i64 X.val, .int .u32 (X.left : Int), .int .u32 (X.right : Int), .int .i64 X.size, .int .i64 X.sum, .int .i64 X.mn, .int .i64 X.mx] 65) = w2 at hs2 ⊢
  generalize w1.heap.size = g at hs2 ⊢
  have HS2 := Lib.hid hs2
  clear hs2
  obtain ⟨⟨x0, x1, x2, x3, x4, x5, x6, x7⟩, -⟩ := HS2.out.row8 (g := g) (X := X) (by simp [ndRow])
  by_cases hsm : X.left = L ∧ X.right = R
  · have HA := Lib.hid (HSAME.out hsm.1 hsm.2)
    obtain ⟨m1, m2, m3, m4⟩ := (Mid.start HI.out.1 HI.out.2.1).ret (i := x) (.inr HN.out.1)
    have HQ : Hid (WsQ A rd held tl tr (ll ++ ⟨X.key, X.val⟩ :: lr) (.returned (.tuple #[.int .u32 (x : Int), .int .i64 0])) (A.ret x) (rd + 1)) := ⟨by omega, by omega, x, tx, rfl, m1, HA.out.kept m2, by rw [m3]; omega⟩
    have HC := Lib.hid (cnt_few HI.out.1 (fun j => Nat.le_trans (HI.out.2.2.1 j) (by decide)) x)
    obtain ⟨e1, e2⟩ := hsm
    have e3 : (X.left : Int) = (L : Int) := by omega
    have e4 : (X.right : Int) = (R : Int) := by omega
    have e5 : ((X.left : Int) == (L : Int)) = true := by simp; omega
    have e6 : ((X.right : Int) == (R : Int)) = true := by simp; omega
    clear m1 m2 m3 m4
    go_wp2_with fail
    refine (HS2.out.retain HN.out.2.1 (.inr HN.out.1) HC.out).mono ?_
    rintro e w3 ⟨rfl, hs3⟩
    have HE := Lib.hid hs3.ends
    clear hs3 HS2 x0 x1 x2 x3 x4 x5 x6 x7
    go_wp2_with fail
    go_ret2
    obtain ⟨F', hal, hI⟩ := HE.out
    exact ⟨F', _, rd + 1, hal, hI, HQ.out⟩
  have hsm2 : ((X.left : Int) = (L : Int) ∧ ¬ (X.right : Int) = (R : Int)) ∨ ¬ (X.left : Int) = (L : Int) := by
    by_cases q : X.left = L
    · exact .inl ⟨by omega, fun q2 => hsm ⟨q, by omega⟩⟩
    · exact .inr (by omega)
  clear hsm HSAME
  rcases hsm2 with ⟨q1, q2⟩ | q1
  case' inl => have q3 : ((X.left : Int) == (L : Int)) = true := by simp; omega
  case' inl => have q4 : ((X.right : Int) == (R : Int)) = false := by simp; omega
  case' inl => clear q1
  case' inr => have q3 : ((X.left : Int) == (L : Int)) = false := by simp; omega
  all_goals
    go_wp2_with fail
    refine (entryB_any X _).mono ?_
    rintro e w3 ⟨rfl, hb3⟩
    have hs3 := HS2.out.calm hb3
    have HS3 := Lib.hid hs3
    clear hb3 hs3 HS2 x0 x1 x2 x3 x4 x5 x6 x7
    go_wp2_with fail
    refine (HS3.out.mut fun F1 hI1 => joinS_any I ⟨X.key, X.val⟩ w3 hI1 HI.out.1 HI.out.2.2.1 HTL.out HTR.out HW.out.1 HW.out.2.1 (by have := HRD.out; omega) (by have := HRD.out; omega) HW.out.2.2.1 HW.out.2.2.2).mono ?_
    rintro en w4 ⟨B, rd4, ⟨⟨z0, -, hq⟩, z1, z2⟩, hs4⟩
    rcases hq with ⟨hq, -⟩ | ⟨-, hq, -⟩ | ⟨-, -, j, t, rfl, hg, -⟩
    · exact absurd HLG.out hq
    · exact absurd hq (by have := HI.out.2.2.2; omega)
    have HQ : Hid (WsQ A rd held tl tr (ll ++ ⟨X.key, X.val⟩ :: lr) (.returned (.tuple #[.int .u32 (j : Int), .int .i64 0])) B rd4) := ⟨by omega, by omega, j, t, rfl, (hg.midB HI.out.1 HI.out.2.1).1, (hg.midB HI.out.1 HI.out.2.1).2, z1⟩
    have HE := Lib.hid hs4.ends
    clear hs4 z0 z1 z2 hg HS3
    go_wp2_with fail
    go_ret2
    obtain ⟨F', hal, hI⟩ := HE.out
    exact ⟨F', B, rd4, hal, hI, HQ.out⟩
end Go.Proofs.YtnimbgcploohiaaGreat
set_option linter.unusedVariables false
set_option linter.unusedSimpArgs false
namespace Go.Proofs.YtnimbgcploohiaaGreat
open Go.RowKit
/-- what a cut answers -/
def CtQ (A : Ar) (rd : Int) (held : Nat → Nat) (n : Nat) (want : List En) (en : Ending) (B : Ar) (rd' : Int) : Prop :=
  rd ≤ rd' ∧ rd' ≤ rd + 14 * (xh want.length : Int) + (sqN (xh n) : Int) ∧ ∃ (j : Nat) (t : Tr), en = .returned (.tuple #[.int .u32 (j : Int), .int .i64 0]) ∧ Mid A held B [j] ∧ At B j t want ∧ A.σ.free.length ≤ B.σ.free.length + 4 * xh want.length
structure CtP (I : AImpl) (w : World) (p : Value) (A : Ar) (rd : Int) (F : Nat → Prop) (held : Nat → Nat) (i : Nat) (t : Tr) (l : List En) (k : Int) (a : Option Addr) (n c : Nat) : Prop where
  is : I.Is w p A rd F
  inv : A.Inv [] held
  agg : A.Agg
  few : ∀ j, held j ≤ 1048100
  tree : At A i t l
  up : Up l
  wf : WfL l
  key : getE l k ≠ none
  size : l.length ≤ 65536
  rd0 : 0 ≤ rd
  rd1 : rd + 14 * (xh l.length : Int) + (sqN (xh l.length) : Int) ≤ 1099510800000
  room : 4 * xh l.length + 4 * (xh l.length + 2) ≤ A.σ.free.length
  path : PathAt w F a c (pathT A.nd k t)
  len : (pathT A.nd k t).length = n
theorem xh_zero : xh 0 = 0 := by
  have h := (xh_spec (n := 0) (by omega)).1
  rcases Nat.eq_zero_or_pos (xh 0) with h1 | h1
  · exact h1
  · have h2 := wt_mono (show 1 ≤ xh 0 from h1)
    have h3 : wt 1 = 2 := by decide
    omega
theorem leads_l {P : List Nat} {i y x : Nat} : leads (i :: y :: P) x = decide (y = x) := rfl
def UpOk15 (I : AImpl) (t : Tr) : Prop := ∀ {p : Value} {A : Ar} {rd : Int} {F : Nat → Prop} {held : Nat → Nat} {i : Nat} {l : List En} {k : Int} {a : Option Addr} {n c : Nat} (w : World), CtP I w p A rd F held i t l k a n c →
    Calls Tryz.prog 44 #[p, .slice a n c] w (Mut I p F (CtQ A rd held l.length (upE l k)) w)
set_option maxRecDepth 100000 in
theorem upTo_none (I : AImpl) {p : Value} {A : Ar} {rd : Int} {F : Nat → Prop} {held : Nat → Nat} {a : Option Addr} {c : Nat} (w : World) (hI : I.Is w p A rd F) (hv : A.Inv [] held) (ha : A.Agg) :
    Calls Tryz.prog 44 #[p, .slice a 0 c] w (Mut I p F (CtQ A rd held 0 []) w) := by
  obtain ⟨pa, rfl⟩ := I.ptr hI
  obtain ⟨m1, m2, m3, m4⟩ := (Mid.start hv ha).ret (i := 0) (.inl rfl)
  have e0 : A.ret 0 = A := if_pos rfl
  rw [e0] at m1
  have HQ : Hid (CtQ A rd held 0 [] (.returned (.tuple #[.int .u32 ((0 : Nat) : Int), .int .i64 0])) A rd) := by
    refine ⟨Int.le_refl _, ?_, 0, .nil, rfl, m1, .nil A, by omega⟩
    simp only [List.length_nil, xh_zero]
    show rd ≤ rd + 14 * 0 + 0
    omega
  have HE := Lib.hid (Ins.start hI).ends
  clear hI hv ha m1 m2 m3 m4 e0
  go_enter Tryz.func44, Tryz.ntmps44
  go_wp2_with fail
  go_ret2
  obtain ⟨F', hal, hI⟩ := HE.out
  exact ⟨F', A, rd, hal, hI, HQ.out⟩
set_option maxHeartbeats 16000000 in
set_option maxRecDepth 100000 in
theorem upTo_node (I : AImpl) {i' : Nat} {tl tr : Tr} (ihl : UpOk15 I tl) (ihr : UpOk15 I tr) : UpOk15 I (.node i' tl tr) := by
  intro p A rd F held i l k a n c w hP
  obtain ⟨pa, rfl⟩ := I.ptr hP.is
  have HS0 := Lib.hid (Ins.start hP.is)
  have hii : i = i' ∧ i ≠ 0 := by
    have h := hP.tree.sub
    cases h with
    | node _ _ _ h1 _ _ _ => exact ⟨rfl, h1⟩
  obtain ⟨rfl, hi0⟩ := hii
  have hon := hP.tree.idx.resolve_left hi0
  have htree := hP.tree
  obtain ⟨X, hX⟩ : ∃ x, A.nd i = x := ⟨_, rfl⟩
  obtain ⟨tl', tr', ll, lr, hnode, rfl, hA, hB, hab⟩ := hP.tree.split hi0
  injection hnode with _ e1 e2
  subst e1 e2
  rw [hX] at hA hB
  have hup := hP.up
  have hwf := hP.wf
  have hsz := hP.size
  have hpa := hP.path
  have hpl := hP.len
  have hky := hP.key
  have hr1 := hP.rd1
  have hro := hP.room
  rw [hX] at hup hwf hsz hky hr1 hro htree ⊢
  have hpt : pathT A.nd k (.node i tl tr) = i :: (if k = X.key then [] else if k < X.key then pathT A.nd k tl else pathT A.nd k tr) := by rw [← hX]; rfl
  rw [hpt] at hpa hpl
  rw [List.length_cons] at hpl
  obtain ⟨ga, oa, rfl, -⟩ := hpa.head (Ins.start hP.is)
  have hlen : (ll ++ (⟨X.key, X.val⟩ : En) :: lr).length = ll.length + lr.length + 1 := by simp; omega
  rw [hlen] at hsz hr1 hro ⊢
  have hup2 := up_app hup
  obtain ⟨H, hH⟩ : ∃ H, xh (ll.length + lr.length + 1) = H := ⟨_, rfl⟩
  rw [hH] at hr1 hro
  have hgl := xh_grow (c := ll.length) (b := ll.length + lr.length + 1) (by have := hab.1; omega) (by omega)
  have hgr := xh_grow (c := lr.length) (b := ll.length + lr.length + 1) (by have := hab.2; omega) (by omega)
  have hg0 := xh_grow (c := 0) (b := ll.length + lr.length + 1) (by omega) (by omega)
  rw [hH] at hgl hgr hg0
  have HH : Hid (xh (ll.length + lr.length + 1) = H ∧ xh ll.length + 1 ≤ H ∧ xh lr.length + 1 ≤ H ∧ xh 0 + 1 ≤ H) := ⟨hH, hgl, hgr, hg0⟩
  have HP : Hid (A.Inv [] held ∧ A.Agg ∧ (∀ j, held j ≤ 1048100) ∧ At A X.left tl ll ∧ At A X.right tr lr) := ⟨hP.inv, hP.agg, hP.few, hA, hB⟩
  have HU : Hid (Up (ll ++ (⟨X.key, X.val⟩ : En) :: lr) ∧ Up ll ∧ Up lr ∧ wbL ll lr) := ⟨hup, hup2.1, hup2.2.1, hab⟩
  have HW : Hid (WfL ll ∧ WfL lr ∧ (i64R X.key ∧ i64R X.val)) := ⟨hwf.left, hwf.right.tail, hwf (⟨X.key, X.val⟩ : En) (by simp)⟩
  have HSZ : Hid (ll.length + lr.length + 1 ≤ 65536) := hsz
  have HRD : Hid (0 ≤ rd ∧ rd + 14 * (H : Int) + (sqN H : Int) ≤ 1099510800000 ∧ 4 * H + 4 * (H + 2) ≤ A.σ.free.length) := ⟨hP.rd0, hr1, hro⟩
  have HN : Hid (A.σ.on i = true ∧ A.nd i = X ∧ i < 4294967296 ∧ i ≠ 0 ∧ At A i (.node i tl tr) (ll ++ (⟨X.key, X.val⟩ : En) :: lr)) := ⟨hon, hX, idx_lt32B hP.inv (.inr hon), hi0, htree⟩
  obtain ⟨P, hPP⟩ : ∃ P, (if k = X.key then [] else if k < X.key then pathT A.nd k tl else pathT A.nd k tr) = P := ⟨_, rfl⟩
  rw [hPP] at hpa hpl
  have hsq := fun (m : Nat) (h : m + 1 ≤ H) => sq_step h
  have hsub : ∀ {x : Nat} {t : Tr} {m : List En}, At A x t m → m ≠ [] → ∃ Q, pathT A.nd k t = x :: Q := fun {x t m} h hm => by
    have hs := h.sub
    cases hs with
    | nil => exact absurd ((h.zero_iff (held := held)).1 rfl) hm
    | node _ l r _ _ _ _ => exact ⟨_, rfl⟩
  have hdiff : lr ≠ [] → ll ≠ [] → X.left ≠ X.right := fun h1 h2 e => by
    have hB' := hB
    rw [← e] at hB'
    have hs := (hA.same hB').2
    obtain ⟨y, hy⟩ := List.exists_mem_of_ne_nil _ h1
    have q1 := hup2.2.2.2 y hy
    rw [← hs] at hy
    have q2 := hup2.2.2.1 y hy
    omega
  have hnz : ∀ {x : Nat} {t : Tr} {m : List En}, At A x t m → m ≠ [] → x ≠ 0 := fun {x t m} h hm q => hm ((h.zero_iff (held := held)).1 q)
  have hzz : ∀ {x : Nat} {t : Tr} {m : List En}, At A x t m → m = [] → x = 0 := fun {x t m} h hm => (h.zero_iff (held := held)).2 hm
  have HCH : Hid (∃ (bl : Bool) (lx : List En) (N : Nat), leads (i :: P) X.left = bl ∧
      (∀ {wr : World} {F1 : Nat → Prop} {ap : Option Addr} {d m : Nat}, I.Is wr (.pointer (some pa)) A (rd + 1) F1 → PathAt wr F1 ap d P → P.length = m → Calls Tryz.prog 44 #[.pointer (some pa), .slice ap m d] wr (Mut I (.pointer (some pa)) F1 (CtQ A (rd + 1) held N lx) wr)) ∧
      xh N + 1 ≤ H ∧ Up lx ∧ WfL lx ∧ (bl = true → upE (ll ++ (⟨X.key, X.val⟩ : En) :: lr) k = lx) ∧
      (bl = false → upE (ll ++ (⟨X.key, X.val⟩ : En) :: lr) k = ll ++ (⟨X.key, X.val⟩ : En) :: lx ∧ lx.length ≤ lr.length ∧ Up (ll ++ (⟨X.key, X.val⟩ : En) :: lx))) := by
    rcases Int.lt_trichotomy k X.key with hk | hk | hk
    · rw [if_neg (by omega), if_pos hk] at hPP
      have hk2 : getE ll k ≠ none := by rw [← getE_l (e := ⟨X.key, X.val⟩) hup hk]; exact hky
      have hne : ll ≠ [] := fun q => hk2 (by rw [q]; rfl)
      obtain ⟨Q, hQ⟩ := hsub hA hne
      have hcall : ∀ {wr : World} {F1 : Nat → Prop} {ap : Option Addr} {d m : Nat}, I.Is wr (.pointer (some pa)) A (rd + 1) F1 → PathAt wr F1 ap d P → P.length = m → Calls Tryz.prog 44 #[.pointer (some pa), .slice ap m d] wr (Mut I (.pointer (some pa)) F1 (CtQ A (rd + 1) held ll.length (upE ll k)) wr) := fun {wr F1 ap d m} h1 h2 h3 =>
        ihl wr ⟨h1, hP.inv, hP.agg, hP.few, hA, hup2.1, hwf.left, hk2, by omega, by have := hP.rd0; omega, by have := hsq _ hgl; omega, by omega, by rw [hPP]; exact h2, by rw [hPP]; exact h3⟩
      refine ⟨true, upE ll k, ll.length, by rw [← hPP, hQ, leads_l]; simp, @hcall, hgl, List.Pairwise.filter _ hup2.1, fun y hy => hwf.left y (List.mem_filter.1 hy).1, fun _ => upE_l hup hk, fun q => (by cases q)⟩
    · rw [if_pos hk] at hPP
      subst hPP
      refine ⟨false, [], 0, rfl, fun {wr F1 ap d m} h1 h2 h3 => by simp at h3; subst h3; exact upTo_none I wr h1 hP.inv hP.agg, hg0, List.Pairwise.nil, fun y hy => (by cases hy), fun q => (by cases q), fun _ => ⟨?_, Nat.zero_le _, ?_⟩⟩
      · rw [hk]; exact upE_m hup
      · exact List.pairwise_append.2 ⟨hup2.1, List.pairwise_singleton _ _, fun x hx y hy => by rcases List.mem_cons.1 hy with rfl | hy; exact hup2.2.2.1 x hx; cases hy⟩
    · rw [if_neg (by omega), if_neg (by omega)] at hPP
      have hk2 : getE lr k ≠ none := by rw [← getE_r (e := ⟨X.key, X.val⟩) hup hk]; exact hky
      have hne : lr ≠ [] := fun q => hk2 (by rw [q]; rfl)
      obtain ⟨Q, hQ⟩ := hsub hB hne
      have hcall : ∀ {wr : World} {F1 : Nat → Prop} {ap : Option Addr} {d m : Nat}, I.Is wr (.pointer (some pa)) A (rd + 1) F1 → PathAt wr F1 ap d P → P.length = m → Calls Tryz.prog 44 #[.pointer (some pa), .slice ap m d] wr (Mut I (.pointer (some pa)) F1 (CtQ A (rd + 1) held lr.length (upE lr k)) wr) := fun {wr F1 ap d m} h1 h2 h3 =>
        ihr wr ⟨h1, hP.inv, hP.agg, hP.few, hB, hup2.2.1, hwf.right.tail, hk2, by omega, by have := hP.rd0; omega, by have := hsq _ hgr; omega, by omega, by rw [hPP]; exact h2, by rw [hPP]; exact h3⟩
      have hld : leads (i :: P) X.left = false := by
        rw [← hPP, hQ, leads_l]
        refine decide_eq_false fun q => ?_
        by_cases h : ll = []
        · rw [hzz hA h] at q; exact hnz hB hne q
        · exact hdiff hne h q.symm
      refine ⟨false, upE lr k, lr.length, hld, @hcall, hgr, List.Pairwise.filter _ hup2.2.1, fun y hy => hwf.right.tail y (List.mem_filter.1 hy).1, fun q => (by cases q), fun _ => ⟨upE_r hup hk, upE_len _ _, List.pairwise_append.2 ⟨hup2.1, List.pairwise_cons.2 ⟨fun y hy => hup2.2.2.2 y (List.mem_filter.1 hy).1, List.Pairwise.filter _ hup2.2.1⟩, fun x hx y hy => by
          have q1 := hup2.2.2.1 x hx
          rcases List.mem_cons.1 hy with rfl | hy
          · exact q1
          · have q2 := hup2.2.2.2 y (List.mem_filter.1 hy).1; omega⟩⟩⟩
  have HPA : Hid (PathAt w F (some ⟨ga, oa, none⟩) c (i :: P) ∧ P.length + 1 = n) := ⟨hpa, hpl⟩
  have hnc : n ≤ c := by have := hpa.1; rw [List.length_cons] at this; omega
  have hn6 : n ≤ 1000000 := by
    have h1 := pathT_ht A.nd k (.node i tl tr)
    have h2 := bal_ht htree.bal (by rw [htree.size]; omega)
    rw [htree.size, hlen, hH] at h2
    rw [hpt, hPP, List.length_cons] at h1
    have := xh_40 hsz
    omega
  have HN6 := Lib.hid hn6
  obtain ⟨m, rfl⟩ : ∃ m, n = m + 1 := ⟨n - 1, by omega⟩
  obtain ⟨d, rfl⟩ : ∃ d, c = d + 1 := ⟨c - 1, by omega⟩
  have HPN : Hid (P.length = m) := by show _ = _; omega
  have hm1 : (1 : Int) ≤ (m : Int) + 1 := by omega
  have hm2 : ¬ (m : Int) + 1 = 0 := by omega
  have hm3 : decide ((m : Int) + 1 = 0) = false := decide_eq_false hm2
  have hm0 : (0 : Int) < (m : Int) + 1 := by omega
  have HPT := Lib.hid hpa.tail
  clear hP ihl ihr hi0 hon hX hA hB hab hup hwf hsz hpa hpl hpt hlen hup2 hH hky hr1 hro hPP hgl hgr hg0 hsq hsub hdiff hnz hzz hnc hn6 htree
  go_enter Tryz.func44, Tryz.ntmps44
  obtain ⟨gb, ob, hgo, y0⟩ := HPA.out.1.head HS0.out
  obtain ⟨rfl, rfl⟩ : ga = gb ∧ oa = ob := by
    have := Option.some.inj hgo
    injection this with q1 q2
    exact ⟨q1, q2⟩
  clear hgo
  go_wp2_with fail
  refine (HS0.out.node HRD.out.1 (by have := HRD.out; omega) HN.out.2.2.1 HN.out.1).mono ?_
  rintro en w2 ⟨rfl, hs⟩
  rw [HN.out.2.1]
  unfold ndRow
  have hs1 := hs.box #[Value.int .i64 X.key, .int .i64 X.val, .int .u32 (X.left : Int), .int .u32 (X.right : Int), .int .i64 X.size, .int .i64 X.sum, .int .i64 X.mn, .int .i64 X.mx] 65
  clear hs HS0 y0
  go_upto_region 4 with fail
  generalize w2.alloc (Obj.cells #[Value.int .i64 X.key, .int .i64 X.val, .int .u32 (X.left : Int), .int .u32 (X.right : Int), .int .i64 X.size, .int .i64 X.sum, .int .i64 X.mn, .int .i64 X.mx] 65) = w3 at hs1 ⊢
  generalize w2.heap.size = gx at hs1 ⊢
  have HS1 := Lib.hid hs1
  clear hs1
  obtain ⟨bl, lx, N, l1, l2, l3, l4, l5, l6, l7⟩ := HCH.out
  have HL2 : Hid (∀ {wr : World} {F1 : Nat → Prop} {ap : Option Addr} {d m : Nat}, I.Is wr (.pointer (some pa)) A (rd + 1) F1 → PathAt wr F1 ap d P → P.length = m → Calls Tryz.prog 44 #[.pointer (some pa), .slice ap m d] wr (Mut I (.pointer (some pa)) F1 (CtQ A (rd + 1) held N lx) wr)) := @l2
  have HL1 := Lib.hid l1
  have HL3 : Hid (xh N + 1 ≤ H ∧ Up lx ∧ WfL lx) := ⟨l3, l4, l5⟩
  have HL6 := Lib.hid l6
  have HL7 := Lib.hid l7
  clear HCH l1 l2 l3 l4 l5 l6 l7
  obtain ⟨⟨x0, x1, x2, x3, x4, x5, x6, x7⟩, -⟩ := HS1.out.row8 (g := gx) (X := X) (by simp [ndRow])
  rcases Nat.eq_zero_or_pos d with hd | hd
  case' inl => subst hd
  case' inl => have hpt : PathAt w F (some ⟨ga, oa, none⟩) 0 P := HPT.out
  case' inr => have hd1 : ¬ d = 0 := by omega
  case' inr => have hpt : PathAt w F (some ⟨ga, oa + 1, none⟩) d P := by have h := HPT.out; rw [if_neg (by omega)] at h; exact h
  all_goals
    have HPT2 := Lib.hid hpt
    clear hpt HPT
    go_wp2_with fail
    refine (HS1.out.mutO fun F1 hI1 hF1 => HL2.out hI1 (HPT2.out.ins HS1.out hF1) HPN.out).mono ?_
    rintro en w4 ⟨B, rd2, ⟨q0, q1, j, u, rfl, q2, q3, q4⟩, hs4⟩
    have HQ4 : Hid (rd + 1 ≤ rd2 ∧ rd2 ≤ rd + 1 + 14 * (xh lx.length : Int) + (sqN (xh N) : Int) ∧ Mid A held B [j] ∧ At B j u lx ∧ A.σ.free.length ≤ B.σ.free.length + 4 * xh lx.length) := ⟨q0, q1, q2, q3, q4⟩
    have HS4 := Lib.hid hs4
    clear hs4 q0 q1 q2 q3 q4 HS1 x0 x1 x2 x3 x4 x5 x6 x7
    obtain ⟨⟨x0, x1, x2, x3, x4, x5, x6, x7⟩, -⟩ := HS4.out.row8 (g := gx) (X := X) (by simp [ndRow])
    have HLD : Hid (∀ {F1 : Nat → Prop}, (∀ k, (OldI w F k ∨ SG [] [(gx, Obj.cells #[Value.int .i64 X.key, .int .i64 X.val, .int .u32 (X.left : Int), .int .u32 (X.right : Int), .int .i64 X.size, .int .i64 X.sum, .int .i64 X.mn, .int .i64 X.mx] 65 (0, 0))] k) → k < w4.heap.size ∧ ¬ F1 k) → Calls Tryz.prog 80 #[.slice (some ⟨ga, oa, none⟩) (m + 1) _, .int .u32 (X.left : Int)] w4 (Calm w4 (.bool bl))) := fun {F1} hF1 => by
      have h := leads_any (x := X.left) (HPA.out.1.ins HS4.out hF1) (by rw [List.length_cons, HPN.out]) HN6.out
      rw [HL1.out] at h
      exact h
    go_wp2_with fail
    obtain ⟨F4, f1, f2, f3⟩ := HS4.out.mr.has
    refine (HLD.out f3).mono ?_
    rintro en w5 ⟨rfl, hb5⟩
    have HS5 := Lib.hid (HS4.out.calm hb5)
    clear hb5 f1 f2 f3 HS4 HLD x0 x1 x2 x3 x4 x5 x6 x7
    cases bl with
    | true =>
      have HQ : Hid (CtQ A rd held (ll.length + lr.length + 1) (upE (ll ++ (⟨X.key, X.val⟩ : En) :: lr) k) (.returned (.tuple #[.int .u32 (j : Int), .int .i64 0])) B rd2) := by
        rw [HL6.out rfl]
        have h1 := HQ4.out
        have h2 := sq_step HL3.out.1
        exact ⟨by omega, by rw [HH.out.1]; omega, j, u, rfl, h1.2.2.1, h1.2.2.2.1, h1.2.2.2.2⟩
      have HE := Lib.hid HS5.out.ends
      clear HS5
      go_wp2_with fail
      go_ret2
      obtain ⟨F', hal, hI⟩ := HE.out
      exact ⟨F', B, rd2, hal, hI, HQ.out⟩
    | false =>
      obtain ⟨z1, z2, z3⟩ := HL7.out rfl
      have HZ1 : Hid (upE (ll ++ (⟨X.key, X.val⟩ : En) :: lr) k = ll ++ (⟨X.key, X.val⟩ : En) :: lx ∧ lx.length ≤ lr.length ∧ Up (ll ++ (⟨X.key, X.val⟩ : En) :: lx)) := ⟨z1, z2, z3⟩
      have HHT : Hid (tl.ht ≤ xh ll.length ∧ u.ht ≤ xh lx.length ∧ xh lx.length ≤ xh lr.length) := by
        have h1 := HSZ.out
        refine ⟨?_, ?_, xh_up z2 (by omega)⟩
        · have := bal_ht (HP.out.2.2.2.1).bal (by rw [(HP.out.2.2.2.1).size]; omega)
          rw [(HP.out.2.2.2.1).size] at this
          exact this
        · have := bal_ht HQ4.out.2.2.2.1.bal (by rw [HQ4.out.2.2.2.1.size]; omega)
          rw [HQ4.out.2.2.2.1.size] at this
          exact this
      have HCS : Hid (3 * jd tl u + 1 + 4 * xh lx.length ≤ 4 * xh (ll.length + lx.length + 1) ∧ jd tl u + xh lx.length ≤ xh (ll.length + lx.length + 1) ∧ xh (ll.length + lx.length + 1) ≤ H) := by
        have h1 := HSZ.out
        have h2 := (HP.out.2.2.2.1).size
        have h3 := HQ4.out.2.2.2.1.size
        have h4 := HU.out.2.2.2
        have h5 := cut_step_r (t := tl) (u := u) (HP.out.2.2.2.1).bal HQ4.out.2.2.2.1.bal (by omega) (by have := h4.1; have := h4.2; omega)
        rw [h2, h3] at h5
        have h6 := xh_up (m := ll.length + lx.length + 1) (n := ll.length + lr.length + 1) (by omega) (by omega)
        rw [HH.out.1] at h6
        exact ⟨h5.1, h5.2, h6⟩
      have HJI : Hid (joinI (ll.length : Int) (lx.length : Int) ≤ (B.σ.free.length : Int)) := by
        have h1 := HSZ.out
        have h2 := HCS.out
        have h3 := HRD.out
        have h4 := HQ4.out
        have h5 := HHT.out
        have h6 := HH.out
        show _ ≤ _
        rw [joinJ (by omega) (by omega)]
        omega
      have HWS : Hid (∀ {wr : World} {F1 : Nat → Prop}, I.Is wr (.pointer (some pa)) B rd2 F1 → Calls Tryz.prog 81 #[.pointer (some pa), .int .u32 (i : Int), .int .u32 (X.left : Int), .int .u32 (j : Int)] wr (Mut I (.pointer (some pa)) F1 (WsQ B rd2 (plL held [j]) tl u (ll ++ (⟨X.key, X.val⟩ : En) :: lx)) wr)) := fun {wr F1} hI1 => by
        have hk := HQ4.out.2.2.1.kept
        have hond : B.nd i = X := by rw [hk.nd i HN.out.1]; exact HN.out.2.1
        have hwl : WfL (ll ++ (⟨X.key, X.val⟩ : En) :: lx) := HW.out.1.mid HW.out.2.2 HL3.out.2.2
        exact with_any I wr ⟨hI1, HQ4.out.2.2.1.inv, HQ4.out.2.2.1.agg, fun q => by have := plL_le HP.out.2.2.1 [j] q; simp at this; omega, HN.out.2.2.2.2.kept hk, HN.out.2.2.2.1, hond, HP.out.2.2.2.1.kept hk, HQ4.out.2.2.2.1, HZ1.out.2.2, hwl, by have := HRD.out; have := HQ4.out; omega, by have h1 := HRD.out; have h2 := HQ4.out; have h3 := HHT.out; have h4 := HH.out; have h5 := sq_step HL3.out.1; omega, HJI.out⟩
      have HCE : Hid (∀ {wx : World} {C : Ar} {rdx : Int}, Ins I w F (.pointer (some pa)) C rdx [] [(gx, Obj.cells #[Value.int .i64 X.key, .int .i64 X.val, .int .u32 (X.left : Int), .int .u32 (X.right : Int), .int .i64 X.size, .int .i64 X.sum, .int .i64 X.mn, .int .i64 X.mx] 65 (0, 0))] wx → wx.cell? ⟨ga, oa, none⟩ = some (.int .u32 (i : Int)) ∧ wx.cell? ⟨gx, 2, none⟩ = some (.int .u32 (X.left : Int))) := fun {wx C rdx} hx => by
        obtain ⟨gb, ob, hgo, y0⟩ := HPA.out.1.head hx
        have hgg := Option.some.inj hgo
        injection hgg with q1 q2
        subst q1 q2
        obtain ⟨⟨-, -, x2, x3, -, -, -, -⟩, -⟩ := hx.row8 (g := gx) (X := X) (by simp [ndRow])
        exact ⟨y0, x2⟩
      clear z1 z2 z3
      go_upto_region 7 with fail
      have hsd := HS5.out.calm (Below.refl _ _).drew
      clear HS5
      refine anyG_begin (S := (fun w' => w'.cell? ⟨ga, oa, none⟩ = some (.int .u32 (i : Int)) ∧ w'.cell? ⟨gx, 2, none⟩ = some (.int .u32 (X.left : Int)))) (z := 9999) (by kernel_rfl) (HCE.out hsd) (fun hHeld => ?_)
      refine anyG_take (k := 0) (o := _) (v := ?_) (some 40) rfl (by kernel_rfl) (by kernel_rfl) (by kernel_rfl) (by kernel_rfl) (fun _ _ _ h => h) (Or.inl ⟨by rfl, ?_⟩) (by assumption) (by kernel_rfl) ?_
      rotate_left
      · intro w hSw; (try dsimp only at hSw); go_simp; try with_reducible rfl
      (try simp only [Act.put, List.setIfInBounds_toArray, List.set_cons_zero, List.set_cons_succ])
      refine anyG_take (k := 1) (o := _) (v := ?_) (some 41) rfl (by kernel_rfl) (by kernel_rfl) (by kernel_rfl) (by kernel_rfl) (fun _ _ _ h => h) (Or.inl ⟨by rfl, ?_⟩) (by assumption) (by kernel_rfl) ?_
      rotate_left
      · intro w hSw; (try dsimp only at hSw); go_simp; try with_reducible rfl
      (try simp only [Act.put, List.setIfInBounds_toArray, List.set_cons_zero, List.set_cons_succ])
      refine anyG_take (k := 2) (o := _) (v := ?_) (some 42) rfl (by kernel_rfl) (by kernel_rfl) (by kernel_rfl) (by kernel_rfl) (fun _ _ _ h => h) (Or.inl ⟨by rfl, ?_⟩) (by assumption) (by kernel_rfl) ?_
      rotate_left
      · intro w hSw; (try dsimp only at hSw); go_simp; try with_reducible rfl
      (try simp only [Act.put, List.setIfInBounds_toArray, List.set_cons_zero, List.set_cons_succ])
      refine anyG_take (k := 3) (o := _) (v := ?_) (some 43) rfl (by kernel_rfl) (by kernel_rfl) (by kernel_rfl) (by kernel_rfl) (fun _ _ _ h => h) (Or.inl ⟨by rfl, ?_⟩) (by assumption) (by kernel_rfl) ?_
      rotate_left
      · intro w hSw; (try dsimp only at hSw); go_simp; try with_reducible rfl
      (try simp only [Act.put, List.setIfInBounds_toArray, List.set_cons_zero, List.set_cons_succ])
      refine anyG_take (k := 4) (o := _) (v := ?_) (some 44) rfl (by kernel_rfl) (by kernel_rfl) (by kernel_rfl) (by kernel_rfl) (fun _ _ _ h => h) (Or.inl ⟨by rfl, ?_⟩) (by assumption) (by kernel_rfl) ?_
      rotate_left
      · intro w hSw; (try dsimp only at hSw); go_simp; try with_reducible rfl
      (try simp only [Act.put, List.setIfInBounds_toArray, List.set_cons_zero, List.set_cons_succ])
      refine anyG_take (k := 5) (o := _) (v := ?_) (some 45) rfl (by kernel_rfl) (by kernel_rfl) (by kernel_rfl) (by kernel_rfl) (fun _ _ _ h => h) (Or.inl ⟨by rfl, ?_⟩) (by assumption) (by kernel_rfl) ?_
      rotate_left
      · intro w hSw; (try dsimp only at hSw); go_simp; try with_reducible rfl
      (try simp only [Act.put, List.setIfInBounds_toArray, List.set_cons_zero, List.set_cons_succ])
      refine anyG_take (k := 6) (o := _) (v := ?_) (some 46) rfl (by kernel_rfl) (by kernel_rfl) (by kernel_rfl) (by kernel_rfl) (fun _ _ _ h => h) (Or.inl ⟨by rfl, ?_⟩) (by assumption) (by kernel_rfl) ?_
      rotate_left
      · intro w hSw; (try dsimp only at hSw); go_simp; try with_reducible rfl
      (try simp only [Act.put, List.setIfInBounds_toArray, List.set_cons_zero, List.set_cons_succ])
      refine anyG_one (k := 7) (o := _) (by kernel_rfl) rfl (fun KT hKT => ?_)
      go_simp
      go_at_call 81
      refine (hsd.mut fun F1 hI1 => HWS.out hI1).mono ?_
      rintro eB wB ⟨C, rd5, ⟨r0, r1, j2, t2, rfl, r3, r4, r5⟩, hsB⟩
      try go_wp2_with fail
      refine hKT.out _ _ (HCE.out hsB) (fun hHeld => ?_)
      clear hKT KT
      (try simp only [Act.put, List.setIfInBounds_toArray, List.set_cons_zero, List.set_cons_succ])
      refine anyG_take (k := 8) (o := _) (v := ?_) (some 39) rfl (by kernel_rfl) (by kernel_rfl) (by kernel_rfl) (by kernel_rfl) (fun _ _ _ h => h) (Or.inl ⟨by rfl, ?_⟩) (by assumption) (by kernel_rfl) ?_
      rotate_left
      · intro w hSw; (try dsimp only at hSw); go_simp; try with_reducible rfl
      (try simp only [Act.put, List.setIfInBounds_toArray, List.set_cons_zero, List.set_cons_succ])
      refine anyG_take (k := 9) (o := _) (v := ?_) (some 48) rfl (by kernel_rfl) (by kernel_rfl) (by kernel_rfl) (by kernel_rfl) (fun _ _ _ h => h) (Or.inl ⟨by rfl, ?_⟩) (by assumption) (by kernel_rfl) ?_
      rotate_left
      · intro w hSw; (try dsimp only at hSw); go_simp; try with_reducible rfl
      (try simp only [Act.put, List.setIfInBounds_toArray, List.set_cons_zero, List.set_cons_succ])
      refine anyG_take (k := 10) (o := _) (v := ?_) (some 49) rfl (by kernel_rfl) (by kernel_rfl) (by kernel_rfl) (by kernel_rfl) (fun _ _ _ h => h) (Or.inl ⟨by rfl, ?_⟩) (by assumption) (by kernel_rfl) ?_
      rotate_left
      · intro w hSw; (try dsimp only at hSw); go_simp; try with_reducible rfl
      (try simp only [Act.put, List.setIfInBounds_toArray, List.set_cons_zero, List.set_cons_succ])
      refine anyG_take (k := 11) (o := _) (v := ?_) (some 10) rfl (by kernel_rfl) (by kernel_rfl) (by kernel_rfl) (by kernel_rfl) (fun _ _ _ h => h) (Or.inl ⟨by rfl, ?_⟩) (by assumption) (by kernel_rfl) ?_
      rotate_left
      · intro w hSw; (try dsimp only at hSw); go_simp; try with_reducible rfl
      (try simp only [Act.put, List.setIfInBounds_toArray, List.set_cons_zero, List.set_cons_succ])
      refine anyG_take (k := 12) (o := _) (v := ?_) (some 9) rfl (by kernel_rfl) (by kernel_rfl) (by kernel_rfl) (by kernel_rfl) (fun _ _ _ h => h) (Or.inl ⟨by rfl, ?_⟩) (by assumption) (by kernel_rfl) ?_
      rotate_left
      · intro w hSw; (try dsimp only at hSw); go_simp; try with_reducible rfl
      (try simp only [Act.put, List.setIfInBounds_toArray, List.set_cons_zero, List.set_cons_succ])
      refine anyG_done (by kernel_rfl) ?_ _
      have HSB := Lib.hid hsB
      obtain ⟨u1, u2, u3, u4, u5⟩ := nest_give HQ4.out.2.2.1 r3 r4
      have HU2 : Hid (C.Inv [j] (plL held [j2]) ∧ C.Idx j ∧ j < 4294967296) := ⟨u1, u2, idx_lt32B r3.inv u2⟩
      have HQ : Hid (CtQ A rd held (ll.length + lr.length + 1) (upE (ll ++ (⟨X.key, X.val⟩ : En) :: lr) k) (.returned (.tuple #[.int .u32 (j2 : Int), .int .i64 0])) (C.gone j) rd5) := by
        rw [HZ1.out.1]
        have h1 := HQ4.out
        have h2 := sq_step HL3.out.1
        have h3 := HCS.out
        have h4 := HHT.out
        have h5 := HH.out
        have h6 : (ll ++ (⟨X.key, X.val⟩ : En) :: lx).length = ll.length + lx.length + 1 := by simp; omega
        refine ⟨by omega, ?_, j2, t2, rfl, u3, u5, ?_⟩
        · rw [h6, h5.1]; omega
        · rw [h6]; omega
      clear hsB hsd hHeld HCE r0 r1 r3 r4 r5 u1 u2 u3 u4 u5 HWS
      go_wp2_with fail
      refine (HSB.out.release HU2.out.2.2 HU2.out.2.1 HU2.out.1).mono ?_
      rintro en w9 ⟨rfl, hs9⟩
      have HE := Lib.hid hs9.ends
      clear hs9 HSB
      go_wp2_with fail
      go_ret2
      obtain ⟨F', hal, hI⟩ := HE.out
      exact ⟨F', _, rd5, hal, hI, HQ.out⟩
theorem upTo_nil (I : AImpl) : UpOk15 I .nil := by
  intro p A rd F held i l k a n c w hP
  have hl : l = [] := List.eq_nil_of_length_eq_zero hP.tree.size.symm
  exact absurd rfl (hl ▸ hP.key)
theorem upTo_all (I : AImpl) : ∀ t, UpOk15 I t
  | .nil => upTo_nil I
  | .node _ l r => upTo_node I (upTo_all I l) (upTo_all I r)
def FromOk15 (I : AImpl) (t : Tr) : Prop := ∀ {p : Value} {A : Ar} {rd : Int} {F : Nat → Prop} {held : Nat → Nat} {i : Nat} {l : List En} {k : Int} {a : Option Addr} {n c : Nat} (w : World), CtP I w p A rd F held i t l k a n c →
    Calls Tryz.prog 47 #[p, .slice a n c] w (Mut I p F (CtQ A rd held l.length (fromE l k)) w)
set_option maxRecDepth 100000 in
theorem from_none (I : AImpl) {p : Value} {A : Ar} {rd : Int} {F : Nat → Prop} {held : Nat → Nat} {a : Option Addr} {c : Nat} (w : World) (hI : I.Is w p A rd F) (hv : A.Inv [] held) (ha : A.Agg) :
    Calls Tryz.prog 47 #[p, .slice a 0 c] w (Mut I p F (CtQ A rd held 0 []) w) := by
  obtain ⟨pa, rfl⟩ := I.ptr hI
  obtain ⟨m1, m2, m3, m4⟩ := (Mid.start hv ha).ret (i := 0) (.inl rfl)
  have e0 : A.ret 0 = A := if_pos rfl
  rw [e0] at m1
  have HQ : Hid (CtQ A rd held 0 [] (.returned (.tuple #[.int .u32 ((0 : Nat) : Int), .int .i64 0])) A rd) := by
    refine ⟨Int.le_refl _, ?_, 0, .nil, rfl, m1, .nil A, by omega⟩
    simp only [List.length_nil, xh_zero]
    show rd ≤ rd + 14 * 0 + 0
    omega
  have HE := Lib.hid (Ins.start hI).ends
  clear hI hv ha m1 m2 m3 m4 e0
  go_enter Tryz.func47, Tryz.ntmps47
  go_wp2_with fail
  go_ret2
  obtain ⟨F', hal, hI⟩ := HE.out
  exact ⟨F', A, rd, hal, hI, HQ.out⟩
set_option maxHeartbeats 16000000 in
set_option maxRecDepth 100000 in
theorem from_node (I : AImpl) {i' : Nat} {tl tr : Tr} (ihl : FromOk15 I tl) (ihr : FromOk15 I tr) : FromOk15 I (.node i' tl tr) := by
  intro p A rd F held i l k a n c w hP
  obtain ⟨pa, rfl⟩ := I.ptr hP.is
  have HS0 := Lib.hid (Ins.start hP.is)
  have hii : i = i' ∧ i ≠ 0 := by
    have h := hP.tree.sub
    cases h with
    | node _ _ _ h1 _ _ _ => exact ⟨rfl, h1⟩
  obtain ⟨rfl, hi0⟩ := hii
  have hon := hP.tree.idx.resolve_left hi0
  have htree := hP.tree
  obtain ⟨X, hX⟩ : ∃ x, A.nd i = x := ⟨_, rfl⟩
  obtain ⟨tl', tr', ll, lr, hnode, rfl, hA, hB, hab⟩ := hP.tree.split hi0
  injection hnode with _ e1 e2
  subst e1 e2
  rw [hX] at hA hB
  have hup := hP.up
  have hwf := hP.wf
  have hsz := hP.size
  have hpa := hP.path
  have hpl := hP.len
  have hky := hP.key
  have hr1 := hP.rd1
  have hro := hP.room
  rw [hX] at hup hwf hsz hky hr1 hro htree ⊢
  have hpt : pathT A.nd k (.node i tl tr) = i :: (if k = X.key then [] else if k < X.key then pathT A.nd k tl else pathT A.nd k tr) := by rw [← hX]; rfl
  rw [hpt] at hpa hpl
  rw [List.length_cons] at hpl
  obtain ⟨ga, oa, rfl, -⟩ := hpa.head (Ins.start hP.is)
  have hlen : (ll ++ (⟨X.key, X.val⟩ : En) :: lr).length = ll.length + lr.length + 1 := by simp; omega
  rw [hlen] at hsz hr1 hro ⊢
  have hup2 := up_app hup
  obtain ⟨H, hH⟩ : ∃ H, xh (ll.length + lr.length + 1) = H := ⟨_, rfl⟩
  rw [hH] at hr1 hro
  have hgl := xh_grow (c := ll.length) (b := ll.length + lr.length + 1) (by have := hab.1; omega) (by omega)
  have hgr := xh_grow (c := lr.length) (b := ll.length + lr.length + 1) (by have := hab.2; omega) (by omega)
  have hg0 := xh_grow (c := 0) (b := ll.length + lr.length + 1) (by omega) (by omega)
  rw [hH] at hgl hgr hg0
  have HH : Hid (xh (ll.length + lr.length + 1) = H ∧ xh ll.length + 1 ≤ H ∧ xh lr.length + 1 ≤ H ∧ xh 0 + 1 ≤ H) := ⟨hH, hgl, hgr, hg0⟩
  have HP : Hid (A.Inv [] held ∧ A.Agg ∧ (∀ j, held j ≤ 1048100) ∧ At A X.left tl ll ∧ At A X.right tr lr) := ⟨hP.inv, hP.agg, hP.few, hA, hB⟩
  have HU : Hid (Up (ll ++ (⟨X.key, X.val⟩ : En) :: lr) ∧ Up ll ∧ Up lr ∧ wbL ll lr) := ⟨hup, hup2.1, hup2.2.1, hab⟩
  have HW : Hid (WfL ll ∧ WfL lr ∧ (i64R X.key ∧ i64R X.val)) := ⟨hwf.left, hwf.right.tail, hwf (⟨X.key, X.val⟩ : En) (by simp)⟩
  have HSZ : Hid (ll.length + lr.length + 1 ≤ 65536) := hsz
  have HRD : Hid (0 ≤ rd ∧ rd + 14 * (H : Int) + (sqN H : Int) ≤ 1099510800000 ∧ 4 * H + 4 * (H + 2) ≤ A.σ.free.length) := ⟨hP.rd0, hr1, hro⟩
  have HN : Hid (A.σ.on i = true ∧ A.nd i = X ∧ i < 4294967296 ∧ i ≠ 0 ∧ At A i (.node i tl tr) (ll ++ (⟨X.key, X.val⟩ : En) :: lr)) := ⟨hon, hX, idx_lt32B hP.inv (.inr hon), hi0, htree⟩
  obtain ⟨P, hPP⟩ : ∃ P, (if k = X.key then [] else if k < X.key then pathT A.nd k tl else pathT A.nd k tr) = P := ⟨_, rfl⟩
  rw [hPP] at hpa hpl
  have hsq := fun (m : Nat) (h : m + 1 ≤ H) => sq_step h
  have hsub : ∀ {x : Nat} {t : Tr} {m : List En}, At A x t m → m ≠ [] → ∃ Q, pathT A.nd k t = x :: Q := fun {x t m} h hm => by
    have hs := h.sub
    cases hs with
    | nil => exact absurd ((h.zero_iff (held := held)).1 rfl) hm
    | node _ l r _ _ _ _ => exact ⟨_, rfl⟩
  have hdiff : lr ≠ [] → ll ≠ [] → X.left ≠ X.right := fun h1 h2 e => by
    have hB' := hB
    rw [← e] at hB'
    have hs := (hA.same hB').2
    obtain ⟨y, hy⟩ := List.exists_mem_of_ne_nil _ h1
    have q1 := hup2.2.2.2 y hy
    rw [← hs] at hy
    have q2 := hup2.2.2.1 y hy
    omega
  have hnz : ∀ {x : Nat} {t : Tr} {m : List En}, At A x t m → m ≠ [] → x ≠ 0 := fun {x t m} h hm q => hm ((h.zero_iff (held := held)).1 q)
  have hzz : ∀ {x : Nat} {t : Tr} {m : List En}, At A x t m → m = [] → x = 0 := fun {x t m} h hm => (h.zero_iff (held := held)).2 hm
  have HCH : Hid (∃ (bl : Bool) (lx : List En) (N : Nat), leads (i :: P) X.right = bl ∧
      (∀ {wr : World} {F1 : Nat → Prop} {ap : Option Addr} {d m : Nat}, I.Is wr (.pointer (some pa)) A (rd + 1) F1 → PathAt wr F1 ap d P → P.length = m → Calls Tryz.prog 47 #[.pointer (some pa), .slice ap m d] wr (Mut I (.pointer (some pa)) F1 (CtQ A (rd + 1) held N lx) wr)) ∧
      xh N + 1 ≤ H ∧ Up lx ∧ WfL lx ∧ (bl = true → fromE (ll ++ (⟨X.key, X.val⟩ : En) :: lr) k = lx) ∧
      (bl = false → fromE (ll ++ (⟨X.key, X.val⟩ : En) :: lr) k = lx ++ (⟨X.key, X.val⟩ : En) :: lr ∧ lx.length ≤ ll.length ∧ Up (lx ++ (⟨X.key, X.val⟩ : En) :: lr))) := by
    rcases Int.lt_trichotomy k X.key with hk | hk | hk
    · rw [if_neg (by omega), if_pos hk] at hPP
      have hk2 : getE ll k ≠ none := by rw [← getE_l (e := ⟨X.key, X.val⟩) hup hk]; exact hky
      have hne : ll ≠ [] := fun q => hk2 (by rw [q]; rfl)
      obtain ⟨Q, hQ⟩ := hsub hA hne
      have hcall : ∀ {wr : World} {F1 : Nat → Prop} {ap : Option Addr} {d m : Nat}, I.Is wr (.pointer (some pa)) A (rd + 1) F1 → PathAt wr F1 ap d P → P.length = m → Calls Tryz.prog 47 #[.pointer (some pa), .slice ap m d] wr (Mut I (.pointer (some pa)) F1 (CtQ A (rd + 1) held ll.length (fromE ll k)) wr) := fun {wr F1 ap d m} h1 h2 h3 =>
        ihl wr ⟨h1, hP.inv, hP.agg, hP.few, hA, hup2.1, hwf.left, hk2, by omega, by have := hP.rd0; omega, by have := hsq _ hgl; omega, by omega, by rw [hPP]; exact h2, by rw [hPP]; exact h3⟩
      have hld : leads (i :: P) X.right = false := by
        rw [← hPP, hQ, leads_l]
        refine decide_eq_false fun q => ?_
        by_cases h : lr = []
        · rw [hzz hB h] at q; exact hnz hA hne q
        · exact hdiff h hne q
      refine ⟨false, fromE ll k, ll.length, hld, @hcall, hgl, List.Pairwise.filter _ hup2.1, fun y hy => hwf.left y (List.mem_filter.1 hy).1, fun q => (by cases q), fun _ => ⟨fromE_l hup hk, fromE_len _ _, List.pairwise_append.2 ⟨List.Pairwise.filter _ hup2.1, List.pairwise_cons.2 ⟨hup2.2.2.2, hup2.2.1⟩, fun x hx y hy => by
          have q1 := hup2.2.2.1 x (List.mem_filter.1 hx).1
          rcases List.mem_cons.1 hy with rfl | hy
          · exact q1
          · have q2 := hup2.2.2.2 y hy; omega⟩⟩⟩
    · rw [if_pos hk] at hPP
      subst hPP
      refine ⟨false, [], 0, rfl, fun {wr F1 ap d m} h1 h2 h3 => by simp at h3; subst h3; exact from_none I wr h1 hP.inv hP.agg, hg0, List.Pairwise.nil, fun y hy => (by cases hy), fun q => (by cases q), fun _ => ⟨?_, Nat.zero_le _, ?_⟩⟩
      · rw [hk]; exact fromE_m hup
      · exact List.pairwise_cons.2 ⟨hup2.2.2.2, hup2.2.1⟩
    · rw [if_neg (by omega), if_neg (by omega)] at hPP
      have hk2 : getE lr k ≠ none := by rw [← getE_r (e := ⟨X.key, X.val⟩) hup hk]; exact hky
      have hne : lr ≠ [] := fun q => hk2 (by rw [q]; rfl)
      obtain ⟨Q, hQ⟩ := hsub hB hne
      have hcall : ∀ {wr : World} {F1 : Nat → Prop} {ap : Option Addr} {d m : Nat}, I.Is wr (.pointer (some pa)) A (rd + 1) F1 → PathAt wr F1 ap d P → P.length = m → Calls Tryz.prog 47 #[.pointer (some pa), .slice ap m d] wr (Mut I (.pointer (some pa)) F1 (CtQ A (rd + 1) held lr.length (fromE lr k)) wr) := fun {wr F1 ap d m} h1 h2 h3 =>
        ihr wr ⟨h1, hP.inv, hP.agg, hP.few, hB, hup2.2.1, hwf.right.tail, hk2, by omega, by have := hP.rd0; omega, by have := hsq _ hgr; omega, by omega, by rw [hPP]; exact h2, by rw [hPP]; exact h3⟩
      refine ⟨true, fromE lr k, lr.length, by rw [← hPP, hQ, leads_l]; simp, @hcall, hgr, List.Pairwise.filter _ hup2.2.1, fun y hy => hwf.right.tail y (List.mem_filter.1 hy).1, fun _ => fromE_r hup hk, fun q => (by cases q)⟩
  have HPA : Hid (PathAt w F (some ⟨ga, oa, none⟩) c (i :: P) ∧ P.length + 1 = n) := ⟨hpa, hpl⟩
  have hnc : n ≤ c := by have := hpa.1; rw [List.length_cons] at this; omega
  have hn6 : n ≤ 1000000 := by
    have h1 := pathT_ht A.nd k (.node i tl tr)
    have h2 := bal_ht htree.bal (by rw [htree.size]; omega)
    rw [htree.size, hlen, hH] at h2
    rw [hpt, hPP, List.length_cons] at h1
    have := xh_40 hsz
    omega
  have HN6 := Lib.hid hn6
  obtain ⟨m, rfl⟩ : ∃ m, n = m + 1 := ⟨n - 1, by omega⟩
  obtain ⟨d, rfl⟩ : ∃ d, c = d + 1 := ⟨c - 1, by omega⟩
  have HPN : Hid (P.length = m) := by show _ = _; omega
  have hm1 : (1 : Int) ≤ (m : Int) + 1 := by omega
  have hm2 : ¬ (m : Int) + 1 = 0 := by omega
  have hm3 : decide ((m : Int) + 1 = 0) = false := decide_eq_false hm2
  have hm0 : (0 : Int) < (m : Int) + 1 := by omega
  have HPT := Lib.hid hpa.tail
  clear hP ihl ihr hi0 hon hX hA hB hab hup hwf hsz hpa hpl hpt hlen hup2 hH hky hr1 hro hPP hgl hgr hg0 hsq hsub hdiff hnz hzz hnc hn6 htree
  go_enter Tryz.func47, Tryz.ntmps47
  obtain ⟨gb, ob, hgo, y0⟩ := HPA.out.1.head HS0.out
  obtain ⟨rfl, rfl⟩ : ga = gb ∧ oa = ob := by
    have := Option.some.inj hgo
    injection this with q1 q2
    exact ⟨q1, q2⟩
  clear hgo
  go_wp2_with fail
  refine (HS0.out.node HRD.out.1 (by have := HRD.out; omega) HN.out.2.2.1 HN.out.1).mono ?_
  rintro en w2 ⟨rfl, hs⟩
  rw [HN.out.2.1]
  unfold ndRow
  have hs1 := hs.box #[Value.int .i64 X.key, .int .i64 X.val, .int .u32 (X.left : Int), .int .u32 (X.right : Int), .int .i64 X.size, .int .i64 X.sum, .int .i64 X.mn, .int .i64 X.mx] 65
  clear hs HS0 y0
  go_upto_region 4 with fail
  generalize w2.alloc (Obj.cells #[Value.int .i64 X.key, .int .i64 X.val, .int .u32 (X.left : Int), .int .u32 (X.right : Int), .int .i64 X.size, .int .i64 X.sum, .int .i64 X.mn, .int .i64 X.mx] 65) = w3 at hs1 ⊢
  generalize w2.heap.size = gx at hs1 ⊢
  have HS1 := Lib.hid hs1
  clear hs1
  obtain ⟨bl, lx, N, l1, l2, l3, l4, l5, l6, l7⟩ := HCH.out
  have HL2 : Hid (∀ {wr : World} {F1 : Nat → Prop} {ap : Option Addr} {d m : Nat}, I.Is wr (.pointer (some pa)) A (rd + 1) F1 → PathAt wr F1 ap d P → P.length = m → Calls Tryz.prog 47 #[.pointer (some pa), .slice ap m d] wr (Mut I (.pointer (some pa)) F1 (CtQ A (rd + 1) held N lx) wr)) := @l2
  have HL1 := Lib.hid l1
  have HL3 : Hid (xh N + 1 ≤ H ∧ Up lx ∧ WfL lx) := ⟨l3, l4, l5⟩
  have HL6 := Lib.hid l6
  have HL7 := Lib.hid l7
  clear HCH l1 l2 l3 l4 l5 l6 l7
  obtain ⟨⟨x0, x1, x2, x3, x4, x5, x6, x7⟩, -⟩ := HS1.out.row8 (g := gx) (X := X) (by simp [ndRow])
  rcases Nat.eq_zero_or_pos d with hd | hd
  case' inl => subst hd
  case' inl => have hpt : PathAt w F (some ⟨ga, oa, none⟩) 0 P := HPT.out
  case' inr => have hd1 : ¬ d = 0 := by omega
  case' inr => have hpt : PathAt w F (some ⟨ga, oa + 1, none⟩) d P := by have h := HPT.out; rw [if_neg (by omega)] at h; exact h
  all_goals
    have HPT2 := Lib.hid hpt
    clear hpt HPT
    go_wp2_with fail
    refine (HS1.out.mutO fun F1 hI1 hF1 => HL2.out hI1 (HPT2.out.ins HS1.out hF1) HPN.out).mono ?_
    rintro en w4 ⟨B, rd2, ⟨q0, q1, j, u, rfl, q2, q3, q4⟩, hs4⟩
    have HQ4 : Hid (rd + 1 ≤ rd2 ∧ rd2 ≤ rd + 1 + 14 * (xh lx.length : Int) + (sqN (xh N) : Int) ∧ Mid A held B [j] ∧ At B j u lx ∧ A.σ.free.length ≤ B.σ.free.length + 4 * xh lx.length) := ⟨q0, q1, q2, q3, q4⟩
    have HS4 := Lib.hid hs4
    clear hs4 q0 q1 q2 q3 q4 HS1 x0 x1 x2 x3 x4 x5 x6 x7
    obtain ⟨⟨x0, x1, x2, x3, x4, x5, x6, x7⟩, -⟩ := HS4.out.row8 (g := gx) (X := X) (by simp [ndRow])
    have HLD : Hid (∀ {F1 : Nat → Prop}, (∀ k, (OldI w F k ∨ SG [] [(gx, Obj.cells #[Value.int .i64 X.key, .int .i64 X.val, .int .u32 (X.left : Int), .int .u32 (X.right : Int), .int .i64 X.size, .int .i64 X.sum, .int .i64 X.mn, .int .i64 X.mx] 65 (0, 0))] k) → k < w4.heap.size ∧ ¬ F1 k) → Calls Tryz.prog 80 #[.slice (some ⟨ga, oa, none⟩) (m + 1) _, .int .u32 (X.right : Int)] w4 (Calm w4 (.bool bl))) := fun {F1} hF1 => by
      have h := leads_any (x := X.right) (HPA.out.1.ins HS4.out hF1) (by rw [List.length_cons, HPN.out]) HN6.out
      rw [HL1.out] at h
      exact h
    go_wp2_with fail
    obtain ⟨F4, f1, f2, f3⟩ := HS4.out.mr.has
    refine (HLD.out f3).mono ?_
    rintro en w5 ⟨rfl, hb5⟩
    have HS5 := Lib.hid (HS4.out.calm hb5)
    clear hb5 f1 f2 f3 HS4 HLD x0 x1 x2 x3 x4 x5 x6 x7
    cases bl with
    | true =>
      have HQ : Hid (CtQ A rd held (ll.length + lr.length + 1) (fromE (ll ++ (⟨X.key, X.val⟩ : En) :: lr) k) (.returned (.tuple #[.int .u32 (j : Int), .int .i64 0])) B rd2) := by
        rw [HL6.out rfl]
        have h1 := HQ4.out
        have h2 := sq_step HL3.out.1
        exact ⟨by omega, by rw [HH.out.1]; omega, j, u, rfl, h1.2.2.1, h1.2.2.2.1, h1.2.2.2.2⟩
      have HE := Lib.hid HS5.out.ends
      clear HS5
      go_wp2_with fail
      go_ret2
      obtain ⟨F', hal, hI⟩ := HE.out
      exact ⟨F', B, rd2, hal, hI, HQ.out⟩
    | false =>
      obtain ⟨z1, z2, z3⟩ := HL7.out rfl
      have HZ1 : Hid (fromE (ll ++ (⟨X.key, X.val⟩ : En) :: lr) k = lx ++ (⟨X.key, X.val⟩ : En) :: lr ∧ lx.length ≤ ll.length ∧ Up (lx ++ (⟨X.key, X.val⟩ : En) :: lr)) := ⟨z1, z2, z3⟩
      have HHT : Hid (tr.ht ≤ xh lr.length ∧ u.ht ≤ xh lx.length ∧ xh lx.length ≤ xh ll.length) := by
        have h1 := HSZ.out
        refine ⟨?_, ?_, xh_up z2 (by omega)⟩
        · have := bal_ht (HP.out.2.2.2.2).bal (by rw [(HP.out.2.2.2.2).size]; omega)
          rw [(HP.out.2.2.2.2).size] at this
          exact this
        · have := bal_ht HQ4.out.2.2.2.1.bal (by rw [HQ4.out.2.2.2.1.size]; omega)
          rw [HQ4.out.2.2.2.1.size] at this
          exact this
      have HCS : Hid (3 * jd u tr + 1 + 4 * xh lx.length ≤ 4 * xh (lx.length + lr.length + 1) ∧ jd u tr + xh lx.length ≤ xh (lx.length + lr.length + 1) ∧ xh (lx.length + lr.length + 1) ≤ H) := by
        have h1 := HSZ.out
        have h2 := (HP.out.2.2.2.2).size
        have h3 := HQ4.out.2.2.2.1.size
        have h4 := HU.out.2.2.2
        have h5 := cut_step_l (t := tr) (u := u) (HP.out.2.2.2.2).bal HQ4.out.2.2.2.1.bal (by omega) (by have := h4.1; have := h4.2; omega)
        rw [h2, h3] at h5
        have h6 := xh_up (m := lx.length + lr.length + 1) (n := ll.length + lr.length + 1) (by omega) (by omega)
        rw [HH.out.1] at h6
        exact ⟨h5.1, h5.2, h6⟩
      have HJI : Hid (joinI (lx.length : Int) (lr.length : Int) ≤ (B.σ.free.length : Int)) := by
        have h1 := HSZ.out
        have h2 := HCS.out
        have h3 := HRD.out
        have h4 := HQ4.out
        have h5 := HHT.out
        have h6 := HH.out
        show _ ≤ _
        rw [joinJ (by omega) (by omega)]
        omega
      have HWS : Hid (∀ {wr : World} {F1 : Nat → Prop}, I.Is wr (.pointer (some pa)) B rd2 F1 → Calls Tryz.prog 81 #[.pointer (some pa), .int .u32 (i : Int), .int .u32 (j : Int), .int .u32 (X.right : Int)] wr (Mut I (.pointer (some pa)) F1 (WsQ B rd2 (plL held [j]) u tr (lx ++ (⟨X.key, X.val⟩ : En) :: lr)) wr)) := fun {wr F1} hI1 => by
        have hk := HQ4.out.2.2.1.kept
        have hond : B.nd i = X := by rw [hk.nd i HN.out.1]; exact HN.out.2.1
        have hwl : WfL (lx ++ (⟨X.key, X.val⟩ : En) :: lr) := HL3.out.2.2.mid HW.out.2.2 HW.out.2.1
        exact with_any I wr ⟨hI1, HQ4.out.2.2.1.inv, HQ4.out.2.2.1.agg, fun q => by have := plL_le HP.out.2.2.1 [j] q; simp at this; omega, HN.out.2.2.2.2.kept hk, HN.out.2.2.2.1, hond, HQ4.out.2.2.2.1, HP.out.2.2.2.2.kept hk, HZ1.out.2.2, hwl, by have := HRD.out; have := HQ4.out; omega, by have h1 := HRD.out; have h2 := HQ4.out; have h3 := HHT.out; have h4 := HH.out; have h5 := sq_step HL3.out.1; omega, HJI.out⟩
      have HCE : Hid (∀ {wx : World} {C : Ar} {rdx : Int}, Ins I w F (.pointer (some pa)) C rdx [] [(gx, Obj.cells #[Value.int .i64 X.key, .int .i64 X.val, .int .u32 (X.left : Int), .int .u32 (X.right : Int), .int .i64 X.size, .int .i64 X.sum, .int .i64 X.mn, .int .i64 X.mx] 65 (0, 0))] wx → wx.cell? ⟨ga, oa, none⟩ = some (.int .u32 (i : Int)) ∧ wx.cell? ⟨gx, 3, none⟩ = some (.int .u32 (X.right : Int))) := fun {wx C rdx} hx => by
        obtain ⟨gb, ob, hgo, y0⟩ := HPA.out.1.head hx
        have hgg := Option.some.inj hgo
        injection hgg with q1 q2
        subst q1 q2
        obtain ⟨⟨-, -, x2, x3, -, -, -, -⟩, -⟩ := hx.row8 (g := gx) (X := X) (by simp [ndRow])
        exact ⟨y0, x3⟩
      clear z1 z2 z3
      go_upto_region 7 with fail
      have hsd := HS5.out.calm (Below.refl _ _).drew
      clear HS5
      refine anyG_begin (S := (fun w' => w'.cell? ⟨ga, oa, none⟩ = some (.int .u32 (i : Int)) ∧ w'.cell? ⟨gx, 3, none⟩ = some (.int .u32 (X.right : Int)))) (z := 9999) (by kernel_rfl) (HCE.out hsd) (fun hHeld => ?_)
      refine anyG_take (k := 0) (o := _) (v := ?_) (some 40) rfl (by kernel_rfl) (by kernel_rfl) (by kernel_rfl) (by kernel_rfl) (fun _ _ _ h => h) (Or.inl ⟨by rfl, ?_⟩) (by assumption) (by kernel_rfl) ?_
      rotate_left
      · intro w hSw; (try dsimp only at hSw); go_simp; try with_reducible rfl
      (try simp only [Act.put, List.setIfInBounds_toArray, List.set_cons_zero, List.set_cons_succ])
      refine anyG_take (k := 1) (o := _) (v := ?_) (some 41) rfl (by kernel_rfl) (by kernel_rfl) (by kernel_rfl) (by kernel_rfl) (fun _ _ _ h => h) (Or.inl ⟨by rfl, ?_⟩) (by assumption) (by kernel_rfl) ?_
      rotate_left
      · intro w hSw; (try dsimp only at hSw); go_simp; try with_reducible rfl
      (try simp only [Act.put, List.setIfInBounds_toArray, List.set_cons_zero, List.set_cons_succ])
      refine anyG_take (k := 2) (o := _) (v := ?_) (some 42) rfl (by kernel_rfl) (by kernel_rfl) (by kernel_rfl) (by kernel_rfl) (fun _ _ _ h => h) (Or.inl ⟨by rfl, ?_⟩) (by assumption) (by kernel_rfl) ?_
      rotate_left
      · intro w hSw; (try dsimp only at hSw); go_simp; try with_reducible rfl
      (try simp only [Act.put, List.setIfInBounds_toArray, List.set_cons_zero, List.set_cons_succ])
      refine anyG_take (k := 3) (o := _) (v := ?_) (some 43) rfl (by kernel_rfl) (by kernel_rfl) (by kernel_rfl) (by kernel_rfl) (fun _ _ _ h => h) (Or.inl ⟨by rfl, ?_⟩) (by assumption) (by kernel_rfl) ?_
      rotate_left
      · intro w hSw; (try dsimp only at hSw); go_simp; try with_reducible rfl
      (try simp only [Act.put, List.setIfInBounds_toArray, List.set_cons_zero, List.set_cons_succ])
      refine anyG_take (k := 4) (o := _) (v := ?_) (some 44) rfl (by kernel_rfl) (by kernel_rfl) (by kernel_rfl) (by kernel_rfl) (fun _ _ _ h => h) (Or.inl ⟨by rfl, ?_⟩) (by assumption) (by kernel_rfl) ?_
      rotate_left
      · intro w hSw; (try dsimp only at hSw); go_simp; try with_reducible rfl
      (try simp only [Act.put, List.setIfInBounds_toArray, List.set_cons_zero, List.set_cons_succ])
      refine anyG_take (k := 5) (o := _) (v := ?_) (some 45) rfl (by kernel_rfl) (by kernel_rfl) (by kernel_rfl) (by kernel_rfl) (fun _ _ _ h => h) (Or.inl ⟨by rfl, ?_⟩) (by assumption) (by kernel_rfl) ?_
      rotate_left
      · intro w hSw; (try dsimp only at hSw); go_simp; try with_reducible rfl
      (try simp only [Act.put, List.setIfInBounds_toArray, List.set_cons_zero, List.set_cons_succ])
      refine anyG_take (k := 6) (o := _) (v := ?_) (some 46) rfl (by kernel_rfl) (by kernel_rfl) (by kernel_rfl) (by kernel_rfl) (fun _ _ _ h => h) (Or.inl ⟨by rfl, ?_⟩) (by assumption) (by kernel_rfl) ?_
      rotate_left
      · intro w hSw; (try dsimp only at hSw); go_simp; try with_reducible rfl
      (try simp only [Act.put, List.setIfInBounds_toArray, List.set_cons_zero, List.set_cons_succ])
      refine anyG_one (k := 7) (o := _) (by kernel_rfl) rfl (fun KT hKT => ?_)
      go_simp
      go_at_call 81
      refine (hsd.mut fun F1 hI1 => HWS.out hI1).mono ?_
      rintro eB wB ⟨C, rd5, ⟨r0, r1, j2, t2, rfl, r3, r4, r5⟩, hsB⟩
      try go_wp2_with fail
      refine hKT.out _ _ (HCE.out hsB) (fun hHeld => ?_)
      clear hKT KT
      (try simp only [Act.put, List.setIfInBounds_toArray, List.set_cons_zero, List.set_cons_succ])
      refine anyG_take (k := 8) (o := _) (v := ?_) (some 39) rfl (by kernel_rfl) (by kernel_rfl) (by kernel_rfl) (by kernel_rfl) (fun _ _ _ h => h) (Or.inl ⟨by rfl, ?_⟩) (by assumption) (by kernel_rfl) ?_
      rotate_left
      · intro w hSw; (try dsimp only at hSw); go_simp; try with_reducible rfl
      (try simp only [Act.put, List.setIfInBounds_toArray, List.set_cons_zero, List.set_cons_succ])
      refine anyG_take (k := 9) (o := _) (v := ?_) (some 48) rfl (by kernel_rfl) (by kernel_rfl) (by kernel_rfl) (by kernel_rfl) (fun _ _ _ h => h) (Or.inl ⟨by rfl, ?_⟩) (by assumption) (by kernel_rfl) ?_
      rotate_left
      · intro w hSw; (try dsimp only at hSw); go_simp; try with_reducible rfl
      (try simp only [Act.put, List.setIfInBounds_toArray, List.set_cons_zero, List.set_cons_succ])
      refine anyG_take (k := 10) (o := _) (v := ?_) (some 49) rfl (by kernel_rfl) (by kernel_rfl) (by kernel_rfl) (by kernel_rfl) (fun _ _ _ h => h) (Or.inl ⟨by rfl, ?_⟩) (by assumption) (by kernel_rfl) ?_
      rotate_left
      · intro w hSw; (try dsimp only at hSw); go_simp; try with_reducible rfl
      (try simp only [Act.put, List.setIfInBounds_toArray, List.set_cons_zero, List.set_cons_succ])
      refine anyG_take (k := 11) (o := _) (v := ?_) (some 10) rfl (by kernel_rfl) (by kernel_rfl) (by kernel_rfl) (by kernel_rfl) (fun _ _ _ h => h) (Or.inl ⟨by rfl, ?_⟩) (by assumption) (by kernel_rfl) ?_
      rotate_left
      · intro w hSw; (try dsimp only at hSw); go_simp; try with_reducible rfl
      (try simp only [Act.put, List.setIfInBounds_toArray, List.set_cons_zero, List.set_cons_succ])
      refine anyG_take (k := 12) (o := _) (v := ?_) (some 9) rfl (by kernel_rfl) (by kernel_rfl) (by kernel_rfl) (by kernel_rfl) (fun _ _ _ h => h) (Or.inl ⟨by rfl, ?_⟩) (by assumption) (by kernel_rfl) ?_
      rotate_left
      · intro w hSw; (try dsimp only at hSw); go_simp; try with_reducible rfl
      (try simp only [Act.put, List.setIfInBounds_toArray, List.set_cons_zero, List.set_cons_succ])
      refine anyG_done (by kernel_rfl) ?_ _
      have HSB := Lib.hid hsB
      obtain ⟨u1, u2, u3, u4, u5⟩ := nest_give HQ4.out.2.2.1 r3 r4
      have HU2 : Hid (C.Inv [j] (plL held [j2]) ∧ C.Idx j ∧ j < 4294967296) := ⟨u1, u2, idx_lt32B r3.inv u2⟩
      have HQ : Hid (CtQ A rd held (ll.length + lr.length + 1) (fromE (ll ++ (⟨X.key, X.val⟩ : En) :: lr) k) (.returned (.tuple #[.int .u32 (j2 : Int), .int .i64 0])) (C.gone j) rd5) := by
        rw [HZ1.out.1]
        have h1 := HQ4.out
        have h2 := sq_step HL3.out.1
        have h3 := HCS.out
        have h4 := HHT.out
        have h5 := HH.out
        have h6 : (lx ++ (⟨X.key, X.val⟩ : En) :: lr).length = lx.length + lr.length + 1 := by simp; omega
        refine ⟨by omega, ?_, j2, t2, rfl, u3, u5, ?_⟩
        · rw [h6, h5.1]; omega
        · rw [h6]; omega
      clear hsB hsd hHeld HCE r0 r1 r3 r4 r5 u1 u2 u3 u4 u5 HWS
      go_wp2_with fail
      refine (HSB.out.release HU2.out.2.2 HU2.out.2.1 HU2.out.1).mono ?_
      rintro en w9 ⟨rfl, hs9⟩
      have HE := Lib.hid hs9.ends
      clear hs9 HSB
      go_wp2_with fail
      go_ret2
      obtain ⟨F', hal, hI⟩ := HE.out
      exact ⟨F', _, rd5, hal, hI, HQ.out⟩
theorem from_nil (I : AImpl) : FromOk15 I .nil := by
  intro p A rd F held i l k a n c w hP
  have hl : l = [] := List.eq_nil_of_length_eq_zero hP.tree.size.symm
  exact absurd rfl (hl ▸ hP.key)
theorem from_all (I : AImpl) : ∀ t, FromOk15 I t
  | .nil => from_nil I
  | .node _ l r => from_node I (from_all I l) (from_all I r)
end Go.Proofs.YtnimbgcploohiaaGreat
set_option linter.unusedVariables false
set_option linter.unusedSimpArgs false
namespace Go.Proofs.YtnimbgcploohiaaGreat
open Go.RowKit
theorem up_parted (p : En → Bool) : ∀ {l : List En}, Up l → (∀ x ∈ l, ∀ y ∈ l, x.key < y.key → p y = true → p x = true) → l = l.filter p ++ l.filter fun y => !p y
  | [], _, _ => rfl
  | x :: t, hu, h => by
    have hu' := List.pairwise_cons.1 hu
    have ih := up_parted p hu'.2 fun y hy z hz => h y (by simp [hy]) z (by simp [hz])
    cases hx : p x with
    | true =>
      rw [List.filter_cons_of_pos hx, List.filter_cons_of_neg (by simp [hx]), List.cons_append, ← ih]
    | false =>
      have hall : ∀ y ∈ t, p y = false := fun y hy => by
        cases hy2 : p y with
        | false => rfl
        | true => have := h x (by simp) y (by simp [hy]) (hu'.1 y hy) hy2; rw [hx] at this; cases this
      have h0 : t.filter p = [] := List.filter_eq_nil_iff.2 fun y hy => by rw [hall y hy]; simp
      have h1 : (t.filter fun y => !p y) = t := List.filter_eq_self.2 fun y hy => by rw [hall y hy]; rfl
      rw [List.filter_cons_of_neg (by simp [hx]), List.filter_cons_of_pos (by simp [hx]), h0, h1]
      rfl
theorem out_parts {l : List En} (hu : Up l) {lo hi : Int} (h : lo ≤ hi) : outE l lo hi = lowE l lo ++ highE l hi := by
  have hur : Up (outE l lo hi) := List.Pairwise.filter _ hu
  have h2 := up_parted (fun y => decide (y.key < lo)) hur fun x _ y _ hxy hy => by simp at hy ⊢; omega
  unfold outE at h2
  rw [List.filter_filter, List.filter_filter] at h2
  have e1 : (l.filter fun a => decide (a.key < lo) && decide (a.key < lo ∨ hi < a.key)) = lowE l lo := List.filter_congr fun y _ => by
    by_cases ha : y.key < lo <;> simp [ha]
  have e2 : (l.filter fun a => (!decide (a.key < lo)) && decide (a.key < lo ∨ hi < a.key)) = highE l hi := List.filter_congr fun y _ => by
    by_cases ha : y.key < lo
    · have : ¬ hi < y.key := by omega
      simp [ha, this]
    · simp [ha]
  rw [e1, e2] at h2
  exact h2
theorem bet_up {l : List En} (hu : Up l) (lo hi : Int) : Up (betE l lo hi) := List.Pairwise.filter _ hu
theorem out_up {l : List En} (hu : Up l) (lo hi : Int) : Up (outE l lo hi) := List.Pairwise.filter _ hu
theorem bet_wf {l : List En} (hw : WfL l) (lo hi : Int) : WfL (betE l lo hi) := fun y hy => hw y ((List.mem_filter.1 hy).1)
/-- a concatenation with room -/
theorem CatQ.room {A B : Ar} {rd rd' : Int} {held : Nat → Nat} {L R : Nat} {ll lr : List En} {en : Ending} (h : CatQ A rd held L R ll lr en B rd') (hu : Up (ll ++ lr)) (hr : joinI (ll.length : Int) (lr.length : Int) ≤ (A.σ.free.length : Int)) :
    rd ≤ rd' ∧ rd' ≤ rd + joinBd ll.length lr.length ∧ ∃ (j : Nat) (u : Tr), en = .returned (.tuple #[.int .u32 (j : Int), .int .i64 0]) ∧ Got A held B j u (ll ++ lr) := by
  obtain ⟨h1, h2, h3⟩ := h
  refine ⟨h1, h2, ?_⟩
  rcases h3 with ⟨-, u, rfl, hg, -⟩ | ⟨-, q, -⟩ | ⟨-, -, q, -⟩ | ⟨-, -, -, j, u, rfl, hg⟩
  · exact ⟨L + R, u, rfl, hg⟩
  · exact absurd hu q
  · omega
  · exact ⟨j, u, rfl, hg⟩
end Go.Proofs.YtnimbgcploohiaaGreat
