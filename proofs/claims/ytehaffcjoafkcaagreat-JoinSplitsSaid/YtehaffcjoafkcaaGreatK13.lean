/- Of the proofs of JoinJoins, JoinConcatenates, JoinSplits: JnOk. -/
import Derived.Test.YtehaffcjoafkcaaGreatK7
import Derived.Test.YtehaffcjoafkcaaGreatK12
import Derived.Test.YtehaffcjoafkcaaGreatK5
import Derived.Test.YtehaffcjoafkcaaGreatK1
import Derived.Test.YtehaffcjoafkcaaGreatK2
import Derived.Test.YtehaffcjoafkcaaGreatK11
import Derived.Test.YtehaffcjoafkcaaGreatK6
import Derived.Test.YtehaffcjoafkcaaGreatK10
import Derived.Test.YtehaffcjoafkcaaGreatK9
import Derived.Test.YtehaffcjoafkcaaGreatK4
import Derived.Test.YtehaffcjoafkcaaGreatK8
import Derived.Test.YtehaffcjoafkcaaGreatK3
set_option linter.unusedVariables false
set_option linter.unusedSimpArgs false
namespace Go.Proofs.YtehaffcjoafkcaaGreat
open Go.RowKit
theorem up_joinJ {l m : List En} {x y : En} (hl : Up l) (hm : Up m) (hx : l.getLast? = some x) (hy : m.head? = some y) : Up (l ++ m) ↔ x.key < y.key := by
  constructor
  · intro h
    exact (List.pairwise_append.1 h).2.2 x (List.mem_of_getLast? hx) y (List.mem_of_mem_head? hy)
  · intro h
    refine List.pairwise_append.2 ⟨hl, hm, fun u hu v hv => ?_⟩
    have h1 : u.key ≤ x.key := by
      obtain ⟨i, hi, rfl⟩ := List.mem_iff_getElem.1 hu
      rw [List.getLast?_eq_getElem?] at hx
      obtain ⟨hj, rfl⟩ := List.getElem?_eq_some_iff.1 hx
      rcases Nat.lt_or_ge i (l.length - 1) with h2 | h2
      · have := List.pairwise_iff_getElem.1 hl i (l.length - 1) hi hj h2; omega
      · have h3 : i = l.length - 1 := by omega
        subst h3; exact Int.le_refl _
    have h4 : y.key ≤ v.key := by
      cases m with
      | nil => cases hy
      | cons z t =>
        cases hy
        rcases List.mem_cons.1 hv with rfl | hv
        · exact Int.le_refl _
        · have := (List.pairwise_cons.1 hm).1 v hv; omega
    omega
theorem allLtJ {l : List En} (hu : Up l) (k : Int) : AllLt l k ↔ ∀ x, l.getLast? = some x → x.key < k := by
  constructor
  · intro h x hx
    exact h x (List.mem_of_getLast? hx)
  · intro h y hy
    obtain ⟨x, hx⟩ : ∃ x, l.getLast? = some x := ⟨_, List.getLast?_eq_some_getLast (fun e => by rw [e] at hy; cases hy)⟩
    have h0 := h x hx
    obtain ⟨i, hi, rfl⟩ := List.mem_iff_getElem.1 hy
    rw [List.getLast?_eq_getElem?] at hx
    obtain ⟨hj, rfl⟩ := List.getElem?_eq_some_iff.1 hx
    rcases Nat.lt_or_ge i (l.length - 1) with h2 | h2
    · have := List.pairwise_iff_getElem.1 hu i (l.length - 1) hi hj h2; omega
    · have h3 : i = l.length - 1 := by omega
      subst h3; exact h0
theorem allGtJ {l : List En} (hu : Up l) (k : Int) : AllGt l k ↔ ∀ x, l.head? = some x → k < x.key := by
  constructor
  · intro h x hx
    exact h x (List.mem_of_mem_head? hx)
  · intro h y hy
    cases l with
    | nil => cases hy
    | cons z t =>
      have h0 := h z rfl
      rcases List.mem_cons.1 hy with rfl | hy
      · exact h0
      · have := (List.pairwise_cons.1 hu).1 y hy; omega
theorem results_tmp5 {fn : Func} {a b c d e : Tmp} (h : fn.results = #[.tmp a, .tmp b, .tmp c, .tmp d, .tmp e]) (tmps : Array Value) (P : Program) (w : World) :
    (results fn tmps).run P w = .ok (.tuple #[tmps.getD a undef, tmps.getD b undef, tmps.getD c undef, tmps.getD d undef, tmps.getD e undef]) w := by
  simp [results, h]
theorem numJ : ShNum := ⟨maxHeight_any, balancedP_any⟩
theorem TreeAt.few {A : Ar} {i : Nat} {t : Tr} {l : List En} (h : TreeAt A i t l) : l.length ≤ 65536 := by
  obtain ⟨held, hv⟩ := h.inv
  have h1 := h.held
  have h2 := h.size
  have h3 := hv.ok.cap2
  omega
theorem TreeAt.idx' {A : Ar} {i : Nat} {t : Tr} {l : List En} (h : TreeAt A i t l) : A.Idx i := h.sub.idx
theorem joinJ {n m : Nat} (hn : n ≤ 65536) (hm : m ≤ 65536) : joinI (n : Int) (m : Int) = 4 * ((xh (n + m + 1) : Int) + 2) := by
  unfold joinI needI
  have hv : vld (n : Int) ∧ vld (m : Int) ∧ vld 0 := by unfold vld; omega
  rw [if_pos hv, show (n : Int) + (m : Int) + 0 + 1 = ((n + m + 1 : Nat) : Int) by omega, xhI_nat (by omega)]
  omega
theorem splitJ {n : Nat} (hn : n ≤ 65536) : splitI (n : Int) = 12 * ((xh n : Int) + 2) := by
  unfold splitI needI
  have hv : vld (n : Int) ∧ vld 0 ∧ vld 0 := by unfold vld; omega
  rw [if_pos hv, show (n : Int) + 0 + 0 + 0 = (n : Int) by omega, xhI_nat (by omega)]
  omega
set_option maxHeartbeats 32000000 in
set_option maxRecDepth 100000 in
theorem joinP_any (I : AImpl) {p : Value} {A : Ar} {rd : Int} {F : Nat → Prop} {held : Nat → Nat} {L R : Nat} {tl tr : Tr} {ll lr : List En} (e : En) (w : World) (hI : I.Is w p A rd F) (hv : A.Inv [] held) (hm : ∀ j, held j ≤ 1048000) (hL : TreeAt A L tl ll) (hR : TreeAt A R tr lr) (hwl : WfL ll) (hwr : WfL lr) (h0 : 0 ≤ rd) (h1 : rd ≤ 1099511000000) (hk : i64R e.key) (hx : i64R e.val) :
    Calls Tryz.prog 13 #[p, .int .u32 (L : Int), .agg #[.int .i64 e.key, .int .i64 e.val], .int .u32 (R : Int)] w (Mut I p F (JoinQ A rd held L R ll lr e) w) := by
  obtain ⟨pa, rfl⟩ := I.ptr hI
  have hs0 := (Ins.start hI).box #[Value.int .i64 e.key, .int .i64 e.val] 25
  have HV := Lib.hid hv
  have HM := Lib.hid hm
  have HL := Lib.hid hL
  have HR := Lib.hid hR
  have HW : Hid (WfL ll ∧ WfL lr ∧ i64R e.key ∧ i64R e.val) := ⟨hwl, hwr, hk, hx⟩
  have HRD : Hid (0 ≤ rd ∧ rd ≤ 1099511000000) := ⟨h0, h1⟩
  have hn := hL.few
  have hm' := hR.few
  have x1 := xh_up (m := ll.length) (n := ll.length + lr.length + 1) (by omega) (by omega)
  have x2 := xh_up (m := lr.length) (n := ll.length + lr.length + 1) (by omega) (by omega)
  have HN : Hid (ll.length ≤ 65536 ∧ lr.length ≤ 65536) := ⟨hn, hm'⟩
  have HJ : Hid (jd tl tr ≤ xh (ll.length + lr.length + 1)) := by
    have := jd_xh hL.bal hR.bal (by rw [hL.size, hR.size]; omega)
    rw [hL.size, hR.size] at this
    exact this
  have HB : Hid (mostI ll.length + mostI lr.length + 2 + 14 * (jd tl tr : Int) + 2 ≤ joinBd ll.length lr.length ∧ 0 ≤ mostI ll.length ∧ 0 ≤ mostI lr.length ∧ mostI ll.length ≤ 1000 ∧ mostI lr.length ≤ 1000 ∧ (jd tl tr : Int) ≤ 100 ∧ joinI (ll.length : Int) (lr.length : Int) = 4 * ((xh (ll.length + lr.length + 1) : Int) + 2)) := by
    have h1 := HJ.out
    have h2 := (xh_spec (n := ll.length + lr.length + 1) (by omega)).2.1
    refine ⟨?_, ?_, ?_, ?_, ?_, by omega, joinJ hn hm'⟩ <;> (try unfold joinBd) <;> (try unfold mostI) <;> omega
  have HZ : Hid (A.sz L = (ll.length : Int) ∧ A.sz R = (lr.length : Int) ∧ A.Idx L ∧ A.Idx R ∧ L < 4294967296 ∧ R < 4294967296) := ⟨hL.at_.sz hL.agg, hR.at_.sz hL.agg, hL.idx', hR.idx', hL.idx, hR.idx⟩
  have hlt := allLtJ hL.up e.key
  have hgt := allGtJ hR.up e.key
  obtain ⟨ol, hol⟩ : ∃ o, ll.getLast? = o := ⟨_, rfl⟩
  obtain ⟨og, hog⟩ : ∃ o, lr.head? = o := ⟨_, rfl⟩
  rw [hol] at hlt
  rw [hog] at hgt
  have HOL := Lib.hid hol
  have HOG := Lib.hid hog
  have HLT := Lib.hid hlt
  have HGT := Lib.hid hgt
  clear hI hv hm hL hR hwl hwr h0 h1 hk hx hn hm' hlt hgt hol hog x1 x2
  go_enter Tryz.func13, Tryz.ntmps13
  go_upto_region 1 with fail
  generalize w.alloc (Obj.cells #[Value.int .i64 e.key, .int .i64 e.val] 25) = w1 at hs0 ⊢
  generalize w.heap.size = ge at hs0 ⊢
  have HS0 := Lib.hid hs0
  clear hs0
  go_wp2_with fail
  refine (HS0.out.call fun F1 hI1 => (lkImpl I).last w1 hI1 HL.out HRD.out.1 (by have := HRD.out; omega) (fun y hy => (HW.out.1 y hy).1)).mono ?_
  rintro en w2 ⟨rfl, rd1, hs, r1, r2⟩
  rw [HOL.out]
  have HR1 : Hid (rd ≤ rd1 ∧ rd1 ≤ rd + mostI ll.length) := ⟨r1, r2⟩
  unfold enR enA
  have hs1 := hs.box #[Value.int .i64 (ol.elim 0 (·.key)), .int .i64 (ol.elim 0 (·.val))] 25
  clear hs HS0 r1 r2
  go_upto_region 2 with fail
  generalize w2.alloc (Obj.cells #[Value.int .i64 (ol.elim 0 (·.key)), .int .i64 (ol.elim 0 (·.val))] 25) = w3 at hs1 ⊢
  generalize w2.heap.size = ga at hs1 ⊢
  have HS1 := Lib.hid hs1
  clear hs1
  go_wp2_with fail
  refine (HS1.out.call fun F1 hI1 => (lkImpl I).first w3 hI1 HR.out (by have := HRD.out; have := HR1.out; omega) (by have := HRD.out; have := HR1.out; have := HB.out; omega) (fun y hy => (HW.out.2.1 y hy).1)).mono ?_
  rintro en w4 ⟨rfl, rd2, hs, r1, r2⟩
  rw [HOG.out]
  have HR2 : Hid (rd ≤ rd2 ∧ rd2 ≤ rd + mostI ll.length + mostI lr.length) := ⟨by have := HR1.out; omega, by have := HR1.out; omega⟩
  have hs2 := hs.box #[Value.int .i64 (og.elim 0 (·.key)), .int .i64 (og.elim 0 (·.val))] 25
  clear hs HS1 r1 r2
  unfold enR enA
  go_upto_region 3 with fail
  generalize w4.alloc (Obj.cells #[Value.int .i64 (og.elim 0 (·.key)), .int .i64 (og.elim 0 (·.val))] 25) = w5 at hs2 ⊢
  generalize w4.heap.size = gb at hs2 ⊢
  have HS2 := Lib.hid hs2
  clear hs2
  obtain ⟨y0, y1⟩ := two_ofE (HS2.out.boxes (ge, Obj.cells #[Value.int .i64 e.key, .int .i64 e.val] 25 (0, 0)) (by simp)).2
  obtain ⟨z0, z1⟩ := two_ofE (HS2.out.boxes (gb, Obj.cells #[Value.int .i64 (og.elim 0 (·.key)), .int .i64 (og.elim 0 (·.val))] 25 (0, 0)) (by simp)).2
  obtain ⟨u0, u1⟩ := two_ofE (HS2.out.boxes (ga, Obj.cells #[Value.int .i64 (ol.elim 0 (·.key)), .int .i64 (ol.elim 0 (·.val))] 25 (0, 0)) (by simp)).2
  obtain ⟨KL, hKL⟩ : ∃ K, ol.elim (0 : Int) (·.key) = K := ⟨_, rfl⟩
  obtain ⟨KG, hKG⟩ : ∃ K, og.elim (0 : Int) (·.key) = K := ⟨_, rfl⟩
  obtain ⟨BL, hBL⟩ : ∃ K, ol.isSome = K := ⟨_, rfl⟩
  obtain ⟨BG, hBG⟩ : ∃ K, og.isSome = K := ⟨_, rfl⟩
  rw [hKL] at u0
  rw [hKG] at z0
  rw [hBL, hBG]
  have HLTB : Hid (AllLt ll e.key ↔ (BL = true → KL < e.key)) := by
    have h := HLT.out
    refine h.trans ?_
    cases ol with
    | none => simp at hBL; subst hBL; simp
    | some x => simp at hBL hKL; subst hBL hKL; simp
  have HGTB : Hid (AllGt lr e.key ↔ (BG = true → e.key < KG)) := by
    have h := HGT.out
    refine h.trans ?_
    cases og with
    | none => simp at hBG; subst hBG; simp
    | some x => simp at hBG hKG; subst hBG hKG; simp
  clear hKL hKG hBL hBG
  have HEND := Lib.hid HS2.out.ends
  have hcase : (BL = true ∧ e.key ≤ KL) ∨ ((BL = true ∧ KL < e.key) ∧ (BG = true ∧ KG ≤ e.key)) ∨ (BL = false ∧ (BG = true ∧ KG ≤ e.key)) ∨ ((BL = true ∧ KL < e.key) ∧ (BG = true ∧ e.key < KG)) ∨ ((BL = true ∧ KL < e.key) ∧ BG = false) ∨ (BL = false ∧ (BG = true ∧ e.key < KG)) ∨ (BL = false ∧ BG = false) := by
    cases BL <;> cases BG <;> simp <;> omega
  have HBAD : Hid (¬ (AllLt ll e.key ∧ AllGt lr e.key) → ∀ rdx, rd ≤ rdx → rdx ≤ rd + joinBd ll.length lr.length → JoinQ A rd held L R ll lr e (.returned (.tuple #[.int .u32 0, .int .i64 7])) A rdx) := fun hn rdx h1 h2 => ⟨h1, h2, .inl ⟨hn, rfl, rfl⟩⟩
  have HRB : Hid (rd ≤ rd2 ∧ rd2 ≤ rd + joinBd ll.length lr.length) := ⟨HR2.out.1, by have := HR2.out; have := HB.out; omega⟩
  rcases hcase with ⟨rfl, hq⟩ | ⟨⟨rfl, hq⟩, rfl, hq2⟩ | ⟨rfl, rfl, hq2⟩ | hgood
  · have HQ : Hid (¬ (AllLt ll e.key ∧ AllGt lr e.key)) := fun h => by have := (HLTB.out.1 h.1) rfl; omega
    have d1 : decide (e.key ≤ KL) = true := decide_eq_true hq
    go_wp2_with fail
    go_ret2
    obtain ⟨F', hal, hI⟩ := HEND.out
    exact ⟨F', A, rd2, hal, hI, HBAD.out HQ.out rd2 HRB.out.1 HRB.out.2⟩
  · have HQ : Hid (¬ (AllLt ll e.key ∧ AllGt lr e.key)) := fun h => by have := (HGTB.out.1 h.2) rfl; omega
    have d1 : decide (e.key ≤ KL) = false := decide_eq_false (by omega)
    have d2 : decide (KG ≤ e.key) = true := decide_eq_true hq2
    have d3 : ¬ e.key ≤ KL := by omega
    go_wp2_with fail
    go_ret2
    obtain ⟨F', hal, hI⟩ := HEND.out
    exact ⟨F', A, rd2, hal, hI, HBAD.out HQ.out rd2 HRB.out.1 HRB.out.2⟩
  · have HQ : Hid (¬ (AllLt ll e.key ∧ AllGt lr e.key)) := fun h => by have := (HGTB.out.1 h.2) rfl; omega
    have d2 : decide (KG ≤ e.key) = true := decide_eq_true hq2
    go_wp2_with fail
    go_ret2
    obtain ⟨F', hal, hI⟩ := HEND.out
    exact ⟨F', A, rd2, hal, hI, HBAD.out HQ.out rd2 HRB.out.1 HRB.out.2⟩
  have HOK : Hid (AllLt ll e.key ∧ AllGt lr e.key) := by
    refine ⟨HLTB.out.2 fun h => ?_, HGTB.out.2 fun h => ?_⟩
    · rcases hgood with ⟨⟨q1, q2⟩, q3⟩ | ⟨⟨q1, q2⟩, q3⟩ | ⟨q1, q3⟩ | ⟨q1, q3⟩
      · exact q2
      · exact q2
      · rw [q1] at h; cases h
      · rw [q1] at h; cases h
    · rcases hgood with ⟨q3, q1, q2⟩ | ⟨q3, q1⟩ | ⟨q3, q1, q2⟩ | ⟨q3, q1⟩
      · exact q2
      · rw [q1] at h; cases h
      · exact q2
      · rw [q1] at h; cases h
  have HGL : Hid (ll.length + lr.length + 1 ≤ 2147483647) := by have := HN.out; show _ ≤ _; omega
  clear HBAD HLTB HGTB HEND
  rcases hgood with ⟨⟨rfl, hq⟩, rfl, hq2⟩ | ⟨⟨rfl, hq⟩, rfl⟩ | ⟨rfl, rfl, hq2⟩ | ⟨rfl, rfl⟩
  case' inl => have d1 : decide (e.key ≤ KL) = false := decide_eq_false (by omega)
  case' inl => have d3 : ¬ e.key ≤ KL := by omega
  case' inl => have d2 : decide (KG ≤ e.key) = false := decide_eq_false (by omega)
  case' inl => have d4 : ¬ KG ≤ e.key := by omega
  case' inr.inl => have d1 : decide (e.key ≤ KL) = false := decide_eq_false (by omega)
  case' inr.inl => have d3 : ¬ e.key ≤ KL := by omega
  case' inr.inr.inl => have d2 : decide (KG ≤ e.key) = false := decide_eq_false (by omega)
  case' inr.inr.inl => have d4 : ¬ KG ≤ e.key := by omega
  all_goals
    go_wp2_with fail
    refine HS2.out.free.mono ?_
    rintro en w6 ⟨rfl, hs6⟩
    have HS6 := Lib.hid hs6
    clear hs6
    go_wp2_with fail
    refine (HS6.out.sz (by have := HRD.out; have := HR2.out; omega) (by have := HRD.out; have := HR2.out; have := HB.out; omega) HZ.out.2.2.2.2.1 HZ.out.2.2.1 HV.out.ok).mono ?_
    rintro en w7 ⟨rfl, hs7⟩
    rw [HZ.out.1]
    have HS7 := Lib.hid hs7
    clear hs7
    go_wp2_with fail
    refine (HS7.out.sz (by have := HRD.out; have := HR2.out; (repeat' split) <;> omega) (by have := HRD.out; have := HR2.out; have := HB.out; (repeat' split) <;> omega) HZ.out.2.2.2.2.2 HZ.out.2.2.2.1 HV.out.ok).mono ?_
    rintro en w8 ⟨rfl, hs8⟩
    rw [HZ.out.2.1]
    obtain ⟨rd3, hrd3⟩ : ∃ r, (rd2 + if L = 0 then 0 else 1) + (if R = 0 then 0 else 1) = r := ⟨_, rfl⟩
    have HR3 : Hid (rd ≤ rd3 ∧ rd3 ≤ rd + mostI ll.length + mostI lr.length + 2) := by
      have := HR2.out
      show rd ≤ rd3 ∧ rd3 ≤ rd + mostI ll.length + mostI lr.length + 2
      rw [← hrd3]
      (repeat' split) <;> omega
    rw [hrd3] at hs8
    have HS8 := Lib.hid hs8
    clear hs8 hrd3
    go_wp2_with fail
    refine (rsJoin_any (ll.length : Int) (lr.length : Int) w8 (by have := HN.out; unfold in64; omega) (by have := HN.out; unfold in64; omega)).mono ?_
    rintro en w9 ⟨rfl, hb9⟩
    have HS9 := Lib.hid (HS8.out.calm hb9)
    clear hb9
    by_cases hfr : (A.σ.free.length : Int) < joinI (ll.length : Int) (lr.length : Int)
    · have d9 : decide ((A.σ.free.length : Int) < joinI (ll.length : Int) (lr.length : Int)) = true := decide_eq_true hfr
      have HQ : Hid (JoinQ A rd held L R ll lr e (.returned (.tuple #[.int .u32 0, .int .i64 2])) A rd3) := ⟨HR3.out.1, by have := HR3.out; have := HB.out; omega, .inr (.inl ⟨HOK.out, hfr, rfl, rfl⟩)⟩
      have HE := Lib.hid HS9.out.ends
      go_wp2_with fail
      go_ret2
      obtain ⟨F', hal, hI⟩ := HE.out
      exact ⟨F', A, rd3, hal, hI, HQ.out⟩
    have d9 : decide ((A.σ.free.length : Int) < joinI (ll.length : Int) (lr.length : Int)) = false := decide_eq_false hfr
    have HFR : Hid (joinI (ll.length : Int) (lr.length : Int) ≤ (A.σ.free.length : Int)) := by show _ ≤ _; omega
    obtain ⟨v0, v1⟩ := two_ofE (HS9.out.boxes (ge, Obj.cells #[Value.int .i64 e.key, .int .i64 e.val] 25 (0, 0)) (by simp)).2
    go_wp2_with fail
    refine (HS9.out.mut fun F1 hI1 => link_all I (rotImpl I) numJ _ e w9 ⟨hI1, HV.out, HL.out.agg, fun j => Nat.le_trans (HM.out j) (by decide), HL.out.at_, HR.out.at_, HW.out.1, HW.out.2.1, HW.out.2.2, HGL.out, by have := HRD.out; have := HR3.out; omega, by have := HRD.out; have := HR3.out; have := HB.out; omega, by have := HFR.out; have := HB.out; have := HJ.out; omega⟩ (Nat.lt_succ_self _)).mono ?_
    rintro en w10 ⟨B, rd10, ⟨q0, q1, j, t, rfl, q2, q3, q4, q5⟩, hs10⟩
    have HQ : Hid (JoinQ A rd held L R ll lr e (.returned (.tuple #[.int .u32 (j : Int), .int .i64 0])) B rd10) :=
      ⟨by have := HR3.out; omega, by have := HR3.out; have := HB.out; omega, .inr (.inr ⟨HOK.out, HFR.out, j, t, rfl, q2.got q3, fun hb => q5 (bal_wb hb)⟩)⟩
    have HE := Lib.hid hs10.ends
    clear q0 q1 q2 q3 q4 q5 hs10
    go_wp2_with fail
    go_ret2
    obtain ⟨F', hal, hI⟩ := HE.out
    exact ⟨F', B, rd10, hal, hI, HQ.out⟩
theorem whole_lo {l : List En} (hu : Up l) {f : En} {k : Int} (hf : l.head? = some f) (h : k < f.key) : getE l k = none ∧ lowE l k = [] ∧ highE l k = l := by
  have hg : AllGt l k := (allGtJ hu k).2 fun x hx => by rw [hf] at hx; cases hx; exact h
  refine ⟨getE_none fun x hx => by have := hg x hx; omega, ?_, ?_⟩
  · unfold lowE; exact fil0 fun x hx => by have := hg x hx; simp; omega
  · unfold highE; exact fil1 fun x hx => by have := hg x hx; simp; omega
theorem whole_hi {l : List En} (hu : Up l) {g : En} {k : Int} (hg : l.getLast? = some g) (h : g.key < k) : getE l k = none ∧ lowE l k = l ∧ highE l k = [] := by
  have hl : AllLt l k := (allLtJ hu k).2 fun x hx => by rw [hg] at hx; cases hx; exact h
  refine ⟨getE_none fun x hx => by have := hl x hx; omega, ?_, ?_⟩
  · unfold lowE; exact fil1 fun x hx => by have := hl x hx; simp; omega
  · unfold highE; exact fil0 fun x hx => by have := hl x hx; simp; omega
theorem not_whole {l : List En} {f g : En} {k : Int} (hf : l.head? = some f) (hg : l.getLast? = some g) (h1 : f.key ≤ k) (h2 : k ≤ g.key) : ¬ wholeE l k := by
  rintro ⟨hn, h⟩
  have mf := List.mem_of_mem_head? hf
  have mg := List.mem_of_getLast? hg
  have hne : ∀ x ∈ l, x.key ≠ k := fun x hx e => by
    have := List.find?_eq_none.1 hn x hx
    simp [e] at this
  have n1 := hne f mf
  have n2 := hne g mg
  rcases h with h | h
  · have : f ∈ lowE l k := List.mem_filter.2 ⟨mf, by simp; omega⟩
    rw [h] at this
    cases this
  · have : g ∈ highE l k := List.mem_filter.2 ⟨mg, by simp; omega⟩
    rw [h] at this
    cases this
set_option maxHeartbeats 32000000 in
set_option maxRecDepth 100000 in
theorem splitP_any (I : AImpl) {p : Value} {A : Ar} {rd : Int} {F : Nat → Prop} {held : Nat → Nat} {i : Nat} {t : Tr} {l : List En} (k : Int) (w : World) (hI : I.Is w p A rd F) (hv : A.Inv [] held) (hm : ∀ j, held j ≤ 1048000) (hT : TreeAt A i t l) (hw : WfL l) (h0 : 0 ≤ rd) (h1 : rd ≤ 1099511000000) (hk : i64R k) :
    Calls Tryz.prog 31 #[p, .int .u32 (i : Int), .int .i64 k] w (Mut I p F (SplitQ A rd held i l k) w) := by
  obtain ⟨pa, rfl⟩ := I.ptr hI
  have HS0 := Lib.hid (Ins.start hI)
  have HV := Lib.hid hv
  have HM := Lib.hid hm
  have HT := Lib.hid hT
  have HW : Hid (WfL l ∧ i64R k) := ⟨hw, hk⟩
  have HRD : Hid (0 ≤ rd ∧ rd ≤ 1099511000000) := ⟨h0, h1⟩
  have hn := hT.few
  have HN : Hid (l.length ≤ 65536) := hn
  have HB : Hid (2 * mostI l.length + 1 + 45 * (xh l.length : Int) ≤ splitBd l.length ∧ 0 ≤ mostI l.length ∧ mostI l.length ≤ 1000 ∧ (xh l.length : Int) ≤ 100 ∧ splitI (l.length : Int) = 12 * ((xh l.length : Int) + 2) ∧ t.ht ≤ xh l.length ∧ xh (lowE l k).length ≤ xh l.length ∧ xh (highE l k).length ≤ xh l.length) := by
    have h2 := (xh_spec (n := l.length) (by omega)).2.1
    refine ⟨?_, ?_, ?_, by omega, splitJ hn, hT.ht (by omega), xh_up (low_len l k) (by omega), xh_up (high_len l k) (by omega)⟩ <;> (try unfold splitBd) <;> (try unfold mostI) <;> omega
  have HZ : Hid (A.sz i = (l.length : Int) ∧ A.Idx i ∧ i < 4294967296 ∧ A.cnt i < 4611686018427387904) := ⟨hT.at_.sz hT.agg, hT.idx', hT.idx, cnt_few hv (fun j => Nat.le_trans (hm j) (by decide)) i⟩
  obtain ⟨ol, hol⟩ : ∃ o, l.getLast? = o := ⟨_, rfl⟩
  obtain ⟨og, hog⟩ : ∃ o, l.head? = o := ⟨_, rfl⟩
  have HOL := Lib.hid hol
  have HOG := Lib.hid hog
  clear hI hv hm hT hw h0 h1 hk hn hol hog
  go_enter Tryz.func31, Tryz.ntmps31
  go_wp2_with fail
  refine (HS0.out.call fun F1 hI1 => (lkImpl I).first w hI1 HT.out HRD.out.1 (by have := HRD.out; omega) (fun y hy => (HW.out.1 y hy).1)).mono ?_
  rintro en w2 ⟨rfl, rd1, hs, r1, r2⟩
  rw [HOG.out]
  have HR1 : Hid (rd ≤ rd1 ∧ rd1 ≤ rd + mostI l.length) := ⟨r1, r2⟩
  unfold enR enA
  have hs1 := hs.box #[Value.int .i64 (og.elim 0 (·.key)), .int .i64 (og.elim 0 (·.val))] 25
  clear hs HS0 r1 r2
  go_upto_region 2 with fail
  generalize w2.alloc (Obj.cells #[Value.int .i64 (og.elim 0 (·.key)), .int .i64 (og.elim 0 (·.val))] 25) = w3 at hs1 ⊢
  generalize w2.heap.size = ga at hs1 ⊢
  have HS1 := Lib.hid hs1
  clear hs1
  go_wp2_with fail
  refine (HS1.out.call fun F1 hI1 => (lkImpl I).last w3 hI1 HT.out (by have := HRD.out; have := HR1.out; omega) (by have := HRD.out; have := HR1.out; have := HB.out; omega) (fun y hy => (HW.out.1 y hy).1)).mono ?_
  rintro en w4 ⟨rfl, rd2, hs, r1, r2⟩
  rw [HOL.out]
  have HR2 : Hid (rd ≤ rd2 ∧ rd2 ≤ rd + 2 * mostI l.length) := ⟨by have := HR1.out; omega, by have := HR1.out; omega⟩
  have hs2 := hs.box #[Value.int .i64 (ol.elim 0 (·.key)), .int .i64 (ol.elim 0 (·.val))] 25
  clear hs HS1 r1 r2
  unfold enR enA
  go_upto_region 3 with fail
  generalize w4.alloc (Obj.cells #[Value.int .i64 (ol.elim 0 (·.key)), .int .i64 (ol.elim 0 (·.val))] 25) = w5 at hs2 ⊢
  generalize w4.heap.size = gb at hs2 ⊢
  have HS2 := Lib.hid hs2
  clear hs2
  cases og with
  | none =>
    have hl : l = [] := List.head?_eq_none_iff.1 HOG.out
    have HQ : Hid (SplitQ A rd held i l k (.returned (.tuple #[.int .u32 0, .int .i64 0, .bool false, .int .u32 0, .int .i64 0])) A rd2) := by
      subst hl
      obtain ⟨m1, m2, m3⟩ := (Mid.start HV.out HT.out.agg).two (x := 0) (y := 0) (.inl rfl) (.inl rfl)
      have e : A.ret 0 = A := if_pos rfl
      rw [e, e] at m1
      refine ⟨HR2.out.1, by have := HR2.out; have := HB.out; omega, .inl ⟨⟨rfl, .inl rfl⟩, 0, 0, .nil, .nil, rfl, m1.got2 (.nil A) (.nil A), fun h => absurd rfl h, fun h => absurd rfl h, rfl⟩⟩
    have HE := Lib.hid HS2.out.ends
    clear hl
    simp only [Option.isSome_none]
    go_wp2_with fail
    refine bodyPost_ret (results_tmp5 rfl _ _ _) rfl ?_
    obtain ⟨F', hal, hI⟩ := HE.out
    exact ⟨F', A, rd2, hal, hI, HQ.out⟩
  | some f =>
  obtain ⟨g, rfl⟩ : ∃ g, ol = some g := by
    cases ol with
    | some g => exact ⟨g, rfl⟩
    | none =>
      have h1 : l = [] := List.getLast?_eq_none_iff.1 HOL.out
      have h2 := HOG.out
      rw [h1] at h2
      cases h2
  simp only [Option.isSome_some]
  obtain ⟨y0, y1⟩ := two_ofE (HS2.out.boxes (ga, Obj.cells #[Value.int .i64 f.key, .int .i64 f.val] 25 (0, 0)) (by simp)).2
  obtain ⟨z0, z1⟩ := two_ofE (HS2.out.boxes (gb, Obj.cells #[Value.int .i64 g.key, .int .i64 g.val] 25 (0, 0)) (by simp)).2
  by_cases hc1 : k < f.key
  · have d1 : decide (k < f.key) = true := decide_eq_true hc1
    have hwl := whole_lo HT.out.up HOG.out hc1
    have HQ : Hid (SplitQ A rd held i l k (.returned (.tuple #[.int .u32 0, .int .i64 0, .bool false, .int .u32 (i : Int), .int .i64 0])) (A.ret i) rd2) := by
      obtain ⟨m1, m2, m3⟩ := (Mid.start HV.out HT.out.agg).two (x := 0) (y := i) (.inl rfl) HZ.out.2.1
      have e : A.ret 0 = A := if_pos rfl
      rw [e] at m1 m2 m3
      refine ⟨HR2.out.1, by have := HR2.out; have := HB.out; omega, .inl ⟨⟨hwl.1, .inl hwl.2.1⟩, 0, i, .nil, t, rfl, ?_, fun h => absurd hwl.2.1 h, fun _ => rfl, by rw [m3]⟩⟩
      rw [hwl.2.1, hwl.2.2]
      exact m1.got2 (.nil _) (HT.out.at_.kept m2)
    clear hwl
    go_wp2_with fail
    refine (HS2.out.retain HZ.out.2.2.1 HZ.out.2.1 HZ.out.2.2.2).mono ?_
    rintro en w6 ⟨rfl, hs6⟩
    have HE := Lib.hid hs6.ends
    clear hs6 HS2 y0 y1 z0 z1
    go_wp2_with fail
    refine bodyPost_ret (results_tmp5 rfl _ _ _) rfl ?_
    obtain ⟨F', hal, hI⟩ := HE.out
    exact ⟨F', A.ret i, rd2, hal, hI, HQ.out⟩
  have d1 : decide (k < f.key) = false := decide_eq_false hc1
  by_cases hc2 : g.key < k
  · have d2 : decide (g.key < k) = true := decide_eq_true hc2
    have hwl := whole_hi HT.out.up HOL.out hc2
    have HQ : Hid (SplitQ A rd held i l k (.returned (.tuple #[.int .u32 (i : Int), .int .i64 0, .bool false, .int .u32 0, .int .i64 0])) (A.ret i) rd2) := by
      obtain ⟨m1, m2, m3⟩ := (Mid.start HV.out HT.out.agg).two (x := i) (y := 0) HZ.out.2.1 (.inl rfl)
      have e : (A.ret i).ret 0 = A.ret i := if_pos rfl
      rw [e] at m1 m2 m3
      refine ⟨HR2.out.1, by have := HR2.out; have := HB.out; omega, .inl ⟨⟨hwl.1, .inr hwl.2.2⟩, i, 0, t, .nil, rfl, ?_, fun _ => rfl, fun h => absurd hwl.2.2 h, by rw [m3]⟩⟩
      rw [hwl.2.1, hwl.2.2]
      exact m1.got2 (HT.out.at_.kept m2) (.nil _)
    clear hwl
    go_wp2_with fail
    refine (HS2.out.retain HZ.out.2.2.1 HZ.out.2.1 HZ.out.2.2.2).mono ?_
    rintro en w6 ⟨rfl, hs6⟩
    have HE := Lib.hid hs6.ends
    clear hs6 HS2 y0 y1 z0 z1
    go_wp2_with fail
    refine bodyPost_ret (results_tmp5 rfl _ _ _) rfl ?_
    obtain ⟨F', hal, hI⟩ := HE.out
    exact ⟨F', A.ret i, rd2, hal, hI, HQ.out⟩
  have d2 : decide (g.key < k) = false := decide_eq_false hc2
  have HNW : Hid (¬ wholeE l k) := not_whole HOG.out HOL.out (by omega) (by omega)
  go_wp2_with fail
  refine HS2.out.free.mono ?_
  rintro en w6 ⟨rfl, hs6⟩
  have HS6 := Lib.hid hs6
  clear hs6 HS2 y0 y1 z0 z1
  go_wp2_with fail
  refine (HS6.out.sz (by have := HRD.out; have := HR2.out; omega) (by have := HRD.out; have := HR2.out; have := HB.out; omega) HZ.out.2.2.1 HZ.out.2.1 HV.out.ok).mono ?_
  rintro en w7 ⟨rfl, hs7⟩
  rw [HZ.out.1]
  obtain ⟨rd3, hrd3⟩ : ∃ r, (rd2 + if i = 0 then 0 else 1) = r := ⟨_, rfl⟩
  have HR3 : Hid (rd ≤ rd3 ∧ rd3 ≤ rd + 2 * mostI l.length + 1) := by
    have := HR2.out
    show rd ≤ rd3 ∧ rd3 ≤ rd + 2 * mostI l.length + 1
    rw [← hrd3]
    split <;> omega
  rw [hrd3] at hs7
  have HS7 := Lib.hid hs7
  clear hs7 HS6 hrd3
  go_wp2_with fail
  refine (rsSplit_any (l.length : Int) w7 (by have := HN.out; unfold in64; omega)).mono ?_
  rintro en w8 ⟨rfl, hb8⟩
  have HS8 := Lib.hid (HS7.out.calm hb8)
  clear hb8 HS7
  by_cases hfr : (A.σ.free.length : Int) < splitI (l.length : Int)
  · have d9 : decide ((A.σ.free.length : Int) < splitI (l.length : Int)) = true := decide_eq_true hfr
    have HQ : Hid (SplitQ A rd held i l k (.returned (.tuple #[.int .u32 0, .int .i64 0, .bool false, .int .u32 0, .int .i64 2])) A rd3) := ⟨HR3.out.1, by have := HR3.out; have := HB.out; omega, .inr (.inl ⟨HNW.out, hfr, rfl, rfl⟩)⟩
    have HE := Lib.hid HS8.out.ends
    go_wp2_with fail
    refine bodyPost_ret (results_tmp5 rfl _ _ _) rfl ?_
    obtain ⟨F', hal, hI⟩ := HE.out
    exact ⟨F', A, rd3, hal, hI, HQ.out⟩
  have d9 : decide ((A.σ.free.length : Int) < splitI (l.length : Int)) = false := decide_eq_false hfr
  have HFR : Hid (splitI (l.length : Int) ≤ (A.σ.free.length : Int)) := by show _ ≤ _; omega
  go_wp2_with fail
  refine (HS8.out.mut fun F1 hI1 => cut_all I (rotImpl I) numJ t w8 ⟨hI1, HV.out, HT.out.agg, fun j => Nat.le_trans (HM.out j) (by decide), HT.out.at_, HT.out.up, HW.out.1, HW.out.2, by have := HN.out; omega, by have := HRD.out; have := HR3.out; omega, by have := HRD.out; have := HR3.out; have := HB.out; omega, by have := HFR.out; have := HB.out; omega⟩).mono ?_
  rintro en w10 ⟨B, rd10, ⟨q0, s, q1, q2, x, y, tx, ty, rfl, q3, q4, q5, q6⟩, hs10⟩
  obtain ⟨V, hV⟩ : ∃ V, (getE l k).elim (0 : Int) (·.val) = V := ⟨_, rfl⟩
  obtain ⟨D, hD⟩ : ∃ D, (getE l k).isSome = D := ⟨_, rfl⟩
  rw [hV, hD]
  have HQ : Hid (SplitQ A rd held i l k (.returned (.tuple #[.int .u32 (x : Int), .int .i64 V, .bool D, .int .u32 (y : Int), .int .i64 0])) B rd10) :=
    ⟨by have := HR3.out; omega, by have := HR3.out; have := HB.out; omega, .inr (.inr ⟨HNW.out, HFR.out, x, y, tx, ty, by rw [hV, hD], q3.got2 q4 q5⟩)⟩
  have hs11 := hs10.box #[Value.int .u32 (x : Int), .int .i64 V, .bool D, .int .u32 (y : Int)] 98
  clear hV hD q0 q1 q2 q3 q4 q5 q6 hs10 HS8
  go_upto_region 12 with fail
  generalize w10.alloc (Obj.cells #[Value.int .u32 (x : Int), .int .i64 V, .bool D, .int .u32 (y : Int)] 98) = w11 at hs11 ⊢
  generalize w10.heap.size = gp at hs11 ⊢
  obtain ⟨⟨p0, p1, p2, p3⟩, -⟩ := cells4_of (hs11.boxes _ (List.Mem.head _)).2
  have HE : Hid (∀ n, ∃ F', Alters F F' w (w11.drewN n) ∧ I.Is (w11.drewN n) (.pointer (some pa)) B rd10 F') := fun n => (hs11.calm (below_drewN (Below.refl _ _) n)).ends
  clear hs11
  go_quiet (fail)
  go_wp2_with fail
  refine bodyPost_ret (results_tmp5 rfl _ _ _) rfl ?_
  obtain ⟨F', hal, hI⟩ := HE.out _
  exact ⟨F', B, rd10, hal, hI, HQ.out⟩
set_option maxHeartbeats 32000000 in
set_option maxRecDepth 100000 in
theorem concatP_any (I : AImpl) {p : Value} {A : Ar} {rd : Int} {F : Nat → Prop} {held : Nat → Nat} {L R : Nat} {tl tr : Tr} {ll lr : List En} (w : World) (hI : I.Is w p A rd F) (hv : A.Inv [] held) (hm : ∀ j, held j ≤ 1048000) (hL : TreeAt A L tl ll) (hR : TreeAt A R tr lr) (hwl : WfL ll) (hwr : WfL lr) (h0 : 0 ≤ rd) (h1 : rd ≤ 1099511000000) :
    Calls Tryz.prog 23 #[p, .int .u32 (L : Int), .int .u32 (R : Int)] w (Mut I p F (CatQ A rd held L R ll lr) w) := by
  obtain ⟨pa, rfl⟩ := I.ptr hI
  have HS0 := Lib.hid (Ins.start hI)
  have HV := Lib.hid hv
  have HM := Lib.hid hm
  have HL := Lib.hid hL
  have HR := Lib.hid hR
  have HW : Hid (WfL ll ∧ WfL lr) := ⟨hwl, hwr⟩
  have HRD : Hid (0 ≤ rd ∧ rd ≤ 1099511000000) := ⟨h0, h1⟩
  have hn := hL.few
  have hm' := hR.few
  have x1 := xh_up (m := ll.length) (n := ll.length + lr.length + 1) (by omega) (by omega)
  have x2 := xh_up (m := lr.length) (n := ll.length + lr.length + 1) (by omega) (by omega)
  have HN : Hid (ll.length ≤ 65536 ∧ lr.length ≤ 65536) := ⟨hn, hm'⟩
  have HB : Hid (mostI ll.length + mostI lr.length + 2 + 12 * (xh (ll.length + lr.length + 1) : Int) + 14 * (xh (ll.length + lr.length + 1) : Int) + 2 ≤ joinBd ll.length lr.length ∧ 0 ≤ mostI ll.length ∧ 0 ≤ mostI lr.length ∧ mostI ll.length ≤ 1000 ∧ mostI lr.length ≤ 1000 ∧ (xh (ll.length + lr.length + 1) : Int) ≤ 100 ∧ joinI (ll.length : Int) (lr.length : Int) = 4 * ((xh (ll.length + lr.length + 1) : Int) + 2) ∧ tr.ht ≤ xh (ll.length + lr.length + 1) ∧ lossN tr ≤ xh (ll.length + lr.length + 1)) := by
    have h2 := (xh_spec (n := ll.length + lr.length + 1) (by omega)).2.1
    have h3 := hR.ht (by omega)
    have h4 := lossN_le hR.bal (by rw [hR.size]; omega)
    rw [hR.size] at h4
    refine ⟨?_, ?_, ?_, ?_, ?_, by omega, joinJ hn hm', by omega, by omega⟩ <;> (try unfold joinBd) <;> (try unfold mostI) <;> omega
  have HZ : Hid (A.sz L = (ll.length : Int) ∧ A.sz R = (lr.length : Int) ∧ A.Idx L ∧ A.Idx R ∧ L < 4294967296 ∧ R < 4294967296) := ⟨hL.at_.sz hL.agg, hR.at_.sz hL.agg, hL.idx', hR.idx', hL.idx, hR.idx⟩
  clear hI hv hm hL hR hwl hwr h0 h1 hn hm' x1 x2
  go_enter Tryz.func23, Tryz.ntmps23
  by_cases hz : L = 0
  · subst hz
    have hll : ll = [] := (HL.out.at_.zero_iff (held := held)).1 rfl
    have HQ : Hid (CatQ A rd held 0 R ll lr (.returned (.tuple #[.int .u32 (R : Int), .int .i64 0])) (A.ret R) rd) := by
      obtain ⟨m1, m2, m3, m4⟩ := (Mid.start HV.out HL.out.agg).ret HR.out.idx'
      refine ⟨Int.le_refl _, by have := HB.out; omega, .inl ⟨.inl hll, tr, by rw [show 0 + R = R by omega], ?_, by rw [m3]⟩⟩
      rw [hll, show 0 + R = R by omega]
      show Got A held (A.ret R) R tr lr
      exact m1.got (HR.out.at_.kept m2)
    go_wp2_with fail
    refine (HS0.out.mut fun F1 hI1 => share_any I w hI1 HV.out (fun j => Nat.le_trans (HM.out j) (by decide)) HR.out.idx').mono ?_
    rintro en w4 ⟨B, rd4, ⟨rfl, rfl, rfl⟩, hs4⟩
    have HE := Lib.hid hs4.ends
    clear hs4
    go_wp2_with fail
    go_ret2
    obtain ⟨F', hal, hI⟩ := HE.out
    exact ⟨F', _, _, hal, hI, HQ.out⟩
  by_cases hz2 : R = 0
  · subst hz2
    have hlr : lr = [] := (HR.out.at_.zero_iff (held := held)).1 rfl
    have HQ : Hid (CatQ A rd held L 0 ll lr (.returned (.tuple #[.int .u32 (L : Int), .int .i64 0])) (A.ret L) rd) := by
      obtain ⟨m1, m2, m3, m4⟩ := (Mid.start HV.out HL.out.agg).ret HL.out.idx'
      refine ⟨Int.le_refl _, by have := HB.out; omega, .inl ⟨.inr hlr, tl, by rw [show L + 0 = L by omega], ?_, by rw [m3]⟩⟩
      rw [hlr, show L + 0 = L by omega]
      rw [List.append_nil]
      exact m1.got (HL.out.at_.kept m2)
    have hd : decide ((L : Int) = 0) = false := decide_eq_false (by omega)
    have hd2 : ¬ (L : Int) = 0 := by omega
    go_wp2_with fail
    refine (HS0.out.mut fun F1 hI1 => share_any I w hI1 HV.out (fun j => Nat.le_trans (HM.out j) (by decide)) HL.out.idx').mono ?_
    rintro en w4 ⟨B, rd4, ⟨rfl, rfl, rfl⟩, hs4⟩
    have HE := Lib.hid hs4.ends
    clear hs4
    go_wp2_with fail
    go_ret2
    obtain ⟨F', hal, hI⟩ := HE.out
    exact ⟨F', _, _, hal, hI, HQ.out⟩
  have hd : decide ((L : Int) = 0) = false := decide_eq_false (by omega)
  have hd2 : ¬ (L : Int) = 0 := by omega
  have hd3 : decide ((R : Int) = 0) = false := decide_eq_false (by omega)
  have hd4 : ¬ (R : Int) = 0 := by omega
  have HNE : Hid (ll ≠ [] ∧ lr ≠ []) := ⟨fun q => hz ((HL.out.at_.zero_iff (held := held)).2 q), fun q => hz2 ((HR.out.at_.zero_iff (held := held)).2 q)⟩
  clear hz hz2
  obtain ⟨x, hx⟩ : ∃ x, ll.getLast? = some x := ⟨_, List.getLast?_eq_some_getLast HNE.out.1⟩
  obtain ⟨y, hy⟩ : ∃ y, lr.head? = some y := ⟨_, List.head?_eq_some_head HNE.out.2⟩
  have HX := Lib.hid hx
  have HY := Lib.hid hy
  have HUJ : Hid (Up (ll ++ lr) ↔ x.key < y.key) := up_joinJ HL.out.up HR.out.up hx hy
  have HYT : Hid (lr = y :: lr.tail) := by
    show lr = _
    cases lr with
    | nil => cases hy
    | cons z t => cases hy; rfl
  clear hx hy
  go_wp2_with fail
  refine (HS0.out.call fun F1 hI1 => (lkImpl I).last w hI1 HL.out HRD.out.1 (by have := HRD.out; omega) (fun y hy => (HW.out.1 y hy).1)).mono ?_
  rintro en w2 ⟨rfl, rd1, hs, r1, r2⟩
  rw [HX.out]
  have HR1 : Hid (rd ≤ rd1 ∧ rd1 ≤ rd + mostI ll.length) := ⟨r1, r2⟩
  unfold enR enA
  simp only [Option.elim_some, Option.isSome_some]
  have hs1 := hs.box #[Value.int .i64 x.key, .int .i64 x.val] 25
  clear hs HS0 r1 r2
  go_upto_region 6 with fail
  generalize w2.alloc (Obj.cells #[Value.int .i64 x.key, .int .i64 x.val] 25) = w3 at hs1 ⊢
  generalize w2.heap.size = ga at hs1 ⊢
  have HS1 := Lib.hid hs1
  clear hs1
  go_wp2_with fail
  refine (HS1.out.call fun F1 hI1 => (lkImpl I).first w3 hI1 HR.out (by have := HRD.out; have := HR1.out; omega) (by have := HRD.out; have := HR1.out; have := HB.out; omega) (fun y hy => (HW.out.2 y hy).1)).mono ?_
  rintro en w4 ⟨rfl, rd2, hs, r1, r2⟩
  rw [HY.out]
  have HR2 : Hid (rd ≤ rd2 ∧ rd2 ≤ rd + mostI ll.length + mostI lr.length) := ⟨by have := HR1.out; omega, by have := HR1.out; omega⟩
  have hs2 := hs.box #[Value.int .i64 y.key, .int .i64 y.val] 25
  clear hs HS1 r1 r2
  unfold enR enA
  simp only [Option.elim_some, Option.isSome_some]
  go_upto_region 7 with fail
  generalize w4.alloc (Obj.cells #[Value.int .i64 y.key, .int .i64 y.val] 25) = w5 at hs2 ⊢
  generalize w4.heap.size = gb at hs2 ⊢
  have HS2 := Lib.hid hs2
  clear hs2
  obtain ⟨z0, z1⟩ := two_ofE (HS2.out.boxes (gb, Obj.cells #[Value.int .i64 y.key, .int .i64 y.val] 25 (0, 0)) (by simp)).2
  obtain ⟨u0, u1⟩ := two_ofE (HS2.out.boxes (ga, Obj.cells #[Value.int .i64 x.key, .int .i64 x.val] 25 (0, 0)) (by simp)).2
  by_cases hc : y.key ≤ x.key
  · have d1 : decide (y.key ≤ x.key) = true := decide_eq_true hc
    have HQ : Hid (CatQ A rd held L R ll lr (.returned (.tuple #[.int .u32 0, .int .i64 7])) A rd2) := ⟨HR2.out.1, by have := HR2.out; have := HB.out; omega, .inr (.inl ⟨HNE.out, fun q => by have := HUJ.out.1 q; omega, rfl, rfl⟩)⟩
    have HE := Lib.hid HS2.out.ends
    go_wp2_with fail
    go_ret2
    obtain ⟨F', hal, hI⟩ := HE.out
    exact ⟨F', A, rd2, hal, hI, HQ.out⟩
  have d1 : decide (y.key ≤ x.key) = false := decide_eq_false hc
  have HUP : Hid (Up (ll ++ lr)) := HUJ.out.2 (by omega)
  go_wp2_with fail
  refine HS2.out.free.mono ?_
  rintro en w6 ⟨rfl, hs6⟩
  have HS6 := Lib.hid hs6
  clear hs6 HS2 z0 z1 u0 u1
  go_wp2_with fail
  refine (HS6.out.sz (by have := HRD.out; have := HR2.out; omega) (by have := HRD.out; have := HR2.out; have := HB.out; omega) HZ.out.2.2.2.2.1 HZ.out.2.2.1 HV.out.ok).mono ?_
  rintro en w7 ⟨rfl, hs7⟩
  rw [HZ.out.1]
  have HS7 := Lib.hid hs7
  clear hs7 HS6
  go_wp2_with fail
  refine (HS7.out.sz (by have := HRD.out; have := HR2.out; (repeat' split) <;> omega) (by have := HRD.out; have := HR2.out; have := HB.out; (repeat' split) <;> omega) HZ.out.2.2.2.2.2 HZ.out.2.2.2.1 HV.out.ok).mono ?_
  rintro en w8 ⟨rfl, hs8⟩
  rw [HZ.out.2.1]
  obtain ⟨rd3, hrd3⟩ : ∃ r, (rd2 + if L = 0 then 0 else 1) + (if R = 0 then 0 else 1) = r := ⟨_, rfl⟩
  have HR3 : Hid (rd ≤ rd3 ∧ rd3 ≤ rd + mostI ll.length + mostI lr.length + 2) := by
    have := HR2.out
    show rd ≤ rd3 ∧ rd3 ≤ rd + mostI ll.length + mostI lr.length + 2
    rw [← hrd3]
    (repeat' split) <;> omega
  rw [hrd3] at hs8
  have HS8 := Lib.hid hs8
  clear hs8 hrd3 HS7
  go_wp2_with fail
  refine (rsJoin_any (ll.length : Int) (lr.length : Int) w8 (by have := HN.out; unfold in64; omega) (by have := HN.out; unfold in64; omega)).mono ?_
  rintro en w9 ⟨rfl, hb9⟩
  have HS9 := Lib.hid (HS8.out.calm hb9)
  clear hb9 HS8
  by_cases hfr : (A.σ.free.length : Int) < joinI (ll.length : Int) (lr.length : Int)
  · have d9 : decide ((A.σ.free.length : Int) < joinI (ll.length : Int) (lr.length : Int)) = true := decide_eq_true hfr
    have HQ : Hid (CatQ A rd held L R ll lr (.returned (.tuple #[.int .u32 0, .int .i64 2])) A rd3) := ⟨HR3.out.1, by have := HR3.out; have := HB.out; omega, .inr (.inr (.inl ⟨HNE.out, HUP.out, hfr, rfl, rfl⟩))⟩
    have HE := Lib.hid HS9.out.ends
    go_wp2_with fail
    go_ret2
    obtain ⟨F', hal, hI⟩ := HE.out
    exact ⟨F', A, rd3, hal, hI, HQ.out⟩
  have d9 : decide ((A.σ.free.length : Int) < joinI (ll.length : Int) (lr.length : Int)) = false := decide_eq_false hfr
  have HFR : Hid (joinI (ll.length : Int) (lr.length : Int) ≤ (A.σ.free.length : Int)) := by show _ ≤ _; omega
  go_wp2_with fail
  refine (HS9.out.mut fun F1 hI1 => wfo_all I (rotImpl I) numJ tr w9 ⟨hI1, HV.out, HL.out.agg, fun j => Nat.le_trans (HM.out j) (by decide), HR.out.at_, HNE.out.2, HW.out.2, by have := HN.out; omega, by have := HRD.out; have := HR3.out; omega, by have := HRD.out; have := HR3.out; have := HB.out; omega, by have := HFR.out; have := HB.out; omega⟩).mono ?_
  rintro en w10 ⟨B, rd10, ⟨q0, q1, j1, t1, rfl, q2, q3, q4⟩, hs10⟩
  have HR4 : Hid (rd3 ≤ rd10 ∧ rd10 ≤ rd3 + 12 * (xh (ll.length + lr.length + 1) : Int)) := ⟨q0, by have := HB.out; omega⟩
  have HS10 := Lib.hid hs10
  have HMB : Hid (Mid A held B [j1]) := q2
  have HTB := Lib.hid q3
  have HFB : Hid (A.σ.free.length ≤ B.σ.free.length + xh (ll.length + lr.length + 1)) := by have := HB.out; show _ ≤ _; omega
  have HJ : Hid (jd tl t1 ≤ xh (ll.length + lr.length + 1)) := by
    have e1 := HL.out.size
    have e2 := q3.size
    have e3 : lr.length = lr.tail.length + 1 := by have := congrArg List.length HYT.out; simpa using this
    have h1 := jd_xh HL.out.bal q3.bal (by have := HN.out; omega)
    have h2 := xh_up (m := tl.size + t1.size + 1) (n := ll.length + lr.length + 1) (by omega) (by have := HN.out; omega)
    show _ ≤ _
    omega
  have HWT : Hid (WfL lr.tail ∧ (i64R y.key ∧ i64R y.val) ∧ ll.length + lr.tail.length + 1 ≤ 2147483647) := by
    have h := HW.out.2
    have e3 : lr.length = lr.tail.length + 1 := by have := congrArg List.length HYT.out; simpa using this
    exact ⟨fun z hz => h z (List.mem_of_mem_tail hz), h y (by rw [HYT.out]; simp), by have := HN.out; omega⟩
  clear q0 q1 q2 q3 q4 hs10 HS9
  obtain ⟨z0, z1⟩ := two_ofE (HS10.out.boxes (gb, Obj.cells #[Value.int .i64 y.key, .int .i64 y.val] 25 (0, 0)) (by simp)).2
  go_wp2_with fail
  refine (HS10.out.mut fun F1 hI1 => link_all I (rotImpl I) numJ _ y w10 ⟨hI1, HMB.out.inv, HMB.out.agg, fun j => Nat.le_trans (plL_le HM.out [j1] j) (show 1048000 + 1 ≤ 1048400 by decide), HL.out.at_.kept HMB.out.kept, HTB.out, HW.out.1, HWT.out.1, HWT.out.2.1, HWT.out.2.2, by have := HRD.out; have := HR3.out; have := HR4.out; omega, by have := HRD.out; have := HR3.out; have := HR4.out; have := HB.out; have := HJ.out; omega, by have := HFR.out; have := HB.out; have := HJ.out; have := HFB.out; omega⟩ (Nat.lt_succ_self _)).mono ?_
  rintro en w11 ⟨C, rd11, ⟨q0, q1, j, t, rfl, q2, q3, q4, -⟩, hs11⟩
  obtain ⟨g1, g2, g3, g4, g5⟩ := nest_give HMB.out q2 q3
  rw [← HYT.out] at g5
  have HU : Hid (C.Inv [j1] (plL held [j]) ∧ C.Idx j1 ∧ j1 < 4294967296) := ⟨g1, g2, idx_lt32 q2.inv g2⟩
  have HQ : Hid (CatQ A rd held L R ll lr (.returned (.tuple #[.int .u32 (j : Int), .int .i64 0])) (C.gone j1) rd11) :=
    ⟨by have := HR3.out; have := HR4.out; omega, by have := HR3.out; have := HR4.out; have := HB.out; have := HJ.out; omega, .inr (.inr (.inr ⟨HNE.out, HUP.out, HFR.out, j, t, rfl, g3.got g5⟩))⟩
  have HS11 := Lib.hid hs11
  clear q0 q1 q2 q3 q4 g1 g2 g3 g4 g5 hs11 HS10 z0 z1
  go_wp2_with fail
  refine (HS11.out.release HU.out.2.2 HU.out.2.1 HU.out.1).mono ?_
  rintro en w12 ⟨rfl, hs12⟩
  have HE := Lib.hid hs12.ends
  clear hs12 HS11
  go_wp2_with fail
  go_ret2
  obtain ⟨F', hal, hI⟩ := HE.out
  exact ⟨F', _, rd11, hal, hI, HQ.out⟩
theorem joinImpl (I : AImpl) : JoinImpl I where
  join := fun e w hI hv hm hL hR hwl hwr h0 h1 hk hx => joinP_any I e w hI hv hm hL hR hwl hwr h0 h1 hk hx
  concat := fun w hI hv hm hL hR hwl hwr h0 h1 => concatP_any I w hI hv hm hL hR hwl hwr h0 h1
  split := fun k w hI hv hm hT hw h0 h1 hk => splitP_any I k w hI hv hm hT hw h0 h1 hk
end Go.Proofs.YtehaffcjoafkcaaGreat
