/- Of the proofs of BulkCuts, BulkPartsJoin: BkOk5, BkOk. -/
import Derived.Test.YtnimbgcploohiaaGreatPk1
import Derived.Test.YtnimbgcploohiaaGreatPk2
import Derived.Test.YtnimbgcploohiaaGreatPk3
import Derived.Test.YtnimbgcploohiaaGreatPk4
import Derived.Test.YtnimbgcploohiaaGreatPk5
import Derived.Test.YtnimbgcploohiaaGreatPk6
import Derived.Test.YtnimbgcploohiaaGreatPk7
import Derived.Test.YtnimbgcploohiaaGreatPk8
import Derived.Test.YtnimbgcploohiaaGreatPk9
import Derived.Test.YtnimbgcploohiaaGreatPk10
import Derived.Test.YtnimbgcploohiaaGreatPk11
import Derived.Test.YtnimbgcploohiaaGreatPk12
import Derived.Test.YtnimbgcploohiaaGreatPk13
set_option linter.unusedVariables false
set_option linter.unusedSimpArgs false
namespace Go.Proofs.YtnimbgcploohiaaGreat
open Go.RowKit
theorem below_spec : ∀ {l : List En}, Up l → ∀ k : Int, (belowE l k = none ∧ ∀ y ∈ l, k ≤ y.key) ∨ (∃ e, e ∈ l ∧ belowE l k = some e ∧ e.key < k ∧ ∀ y ∈ l, y.key < k → y.key ≤ e.key)
  | [], _, k => .inl ⟨rfl, fun y hy => (by cases hy)⟩
  | x :: t, hu, k => by
    have h1 := below_node (A := []) (B := t) (e := x) hu k
    rw [List.nil_append] at h1
    have hp := List.pairwise_cons.1 hu
    by_cases hx : x.key < k
    · rw [if_pos hx] at h1
      rcases below_spec hp.2 k with ⟨h2, h3⟩ | ⟨e, he, h2, h3, h4⟩
      · refine .inr ⟨x, by simp, by rw [h1, h2]; rfl, hx, fun y hy hyk => ?_⟩
        rcases List.mem_cons.1 hy with rfl | hy
        · exact Int.le_refl _
        · have := h3 y hy; omega
      · refine .inr ⟨e, by simp [he], by rw [h1, h2]; rfl, h3, fun y hy hyk => ?_⟩
        rcases List.mem_cons.1 hy with rfl | hy
        · have := hp.1 e he; omega
        · exact h4 y hy hyk
    · rw [if_neg hx] at h1
      refine .inl ⟨by rw [h1]; rfl, fun y hy => ?_⟩
      rcases List.mem_cons.1 hy with rfl | hy
      · omega
      · have := hp.1 y hy; omega
theorem ceil_spec : ∀ {l : List En}, Up l → ∀ k : Int, (ceilE l k = none ∧ ∀ y ∈ l, y.key < k) ∨ (∃ e, e ∈ l ∧ ceilE l k = some e ∧ k ≤ e.key ∧ ∀ y ∈ l, k ≤ y.key → e.key ≤ y.key)
  | [], _, k => .inl ⟨rfl, fun y hy => (by cases hy)⟩
  | x :: t, hu, k => by
    have h1 := ceil_node (A := []) (B := t) (e := x) hu k
    rw [List.nil_append] at h1
    have hp := List.pairwise_cons.1 hu
    by_cases hx : x.key < k
    · rw [if_pos hx] at h1
      rcases ceil_spec hp.2 k with ⟨h2, h3⟩ | ⟨e, he, h2, h3, h4⟩
      · refine .inl ⟨by rw [h1, h2], fun y hy => ?_⟩
        rcases List.mem_cons.1 hy with rfl | hy
        · exact hx
        · exact h3 y hy
      · refine .inr ⟨e, by simp [he], by rw [h1, h2], h3, fun y hy hyk => ?_⟩
        rcases List.mem_cons.1 hy with rfl | hy
        · omega
        · exact h4 y hy hyk
    · rw [if_neg hx] at h1
      refine .inr ⟨x, by simp, by rw [h1]; rfl, by omega, fun y hy hyk => ?_⟩
      rcases List.mem_cons.1 hy with rfl | hy
      · exact Int.le_refl _
      · have := hp.1 y hy; omega
theorem get_mem {l : List En} {e : En} (h : e ∈ l) : getE l e.key ≠ none := fun q => get_none q e h rfl
theorem low_of {l : List En} {k : Int} {e : En} (h1 : e.key < k) (h2 : ∀ y ∈ l, y.key < k → y.key ≤ e.key) : upE l e.key = lowE l k := List.filter_congr fun y hy => by
  rw [decide_eq_decide]
  constructor
  · intro q; omega
  · exact h2 y hy
theorem high_of {l : List En} {k : Int} {e : En} (h1 : k + 1 ≤ e.key) (h2 : ∀ y ∈ l, k + 1 ≤ y.key → e.key ≤ y.key) : fromE l e.key = highE l k := List.filter_congr fun y hy => by
  rw [decide_eq_decide]
  constructor
  · intro q; omega
  · intro q; exact h2 y hy q
theorem up_of {l : List En} {k : Int} {e : En} (h1 : e.key ≤ k) (h2 : ∀ y ∈ l, y.key ≤ k → y.key ≤ e.key) : upE l e.key = upE l k := List.filter_congr fun y hy => by
  rw [decide_eq_decide]
  constructor
  · intro q; omega
  · exact h2 y hy
theorem from_of {l : List En} {k : Int} {e : En} (h1 : k ≤ e.key) (h2 : ∀ y ∈ l, k ≤ y.key → e.key ≤ y.key) : fromE l e.key = fromE l k := List.filter_congr fun y hy => by
  rw [decide_eq_decide]
  constructor
  · intro q; omega
  · exact h2 y hy
theorem from_up (l : List En) (lo hi : Int) : fromE (upE l hi) lo = betE l lo hi := by
  unfold fromE upE betE
  rw [List.filter_filter]
  exact List.filter_congr fun y hy => by
    by_cases h1 : lo ≤ y.key <;> by_cases h2 : y.key ≤ hi <;> simp [h1, h2]
/-- what below and above answer -/
def CbQ (A : Ar) (rd : Int) (held : Nat → Nat) (n : Nat) (want : List En) (en : Ending) (B : Ar) (rd' : Int) : Prop :=
  rd ≤ rd' ∧ rd' ≤ rd + 2 * mostI n + 14 * (xh want.length : Int) + (sqN (xh n) : Int) ∧ ∃ (j : Nat) (t : Tr), en = .returned (.tuple #[.int .u32 (j : Int), .int .i64 0]) ∧ Mid A held B [j] ∧ At B j t want ∧ A.σ.free.length ≤ B.σ.free.length + 4 * xh want.length
structure CbP (I : AImpl) (w : World) (p : Value) (A : Ar) (rd : Int) (F : Nat → Prop) (held : Nat → Nat) (i : Nat) (t : Tr) (l : List En) : Prop where
  is : I.Is w p A rd F
  inv : A.Inv [] held
  few : ∀ j, held j ≤ 1048100
  tree : TreeAt A i t l
  wf : WfL l
  rd0 : 0 ≤ rd
  rd1 : rd ≤ 1099509500000
  room : 4 * xh l.length + 4 * (xh l.length + 2) ≤ A.σ.free.length
theorem cut_bdC {n : Nat} (h : n ≤ 65536) : mostI n = 4 * ((xh n : Int) + 2) ∧ xh n ≤ 40 ∧ sqN (xh n) ≤ 47 * xh n := ⟨rfl, xh_40 h, sq_40 (xh_40 h)⟩
set_option maxHeartbeats 16000000 in
set_option maxRecDepth 100000 in
theorem belowC_any (I : AImpl) {p : Value} {A : Ar} {rd : Int} {F : Nat → Prop} {held : Nat → Nat} {i : Nat} {t : Tr} {l : List En} (k : Int) (w : World) (hP : CbP I w p A rd F held i t l) (hk : i64R k) :
    Calls Tryz.prog 40 #[p, .int .u32 (i : Int), .int .i64 k] w (Mut I p F (CbQ A rd held l.length (lowE l k)) w) := by
  obtain ⟨pa, rfl⟩ := I.ptr hP.is
  have HS0 := Lib.hid (Ins.start hP.is)
  have hn := hP.tree.few
  have HB := Lib.hid (cut_bdC hn)
  have HT := Lib.hid hP.tree
  have HP : Hid (A.Inv [] held ∧ A.Agg ∧ (∀ j, held j ≤ 1048100) ∧ WfL l ∧ l.length ≤ 65536 ∧ 4 * xh l.length + 4 * (xh l.length + 2) ≤ A.σ.free.length) := ⟨hP.inv, hP.tree.agg, hP.few, hP.wf, hn, hP.room⟩
  have HRD : Hid (0 ≤ rd ∧ rd ≤ 1099509500000) := ⟨hP.rd0, hP.rd1⟩
  have HK : Hid (i64R k) := hk
  clear hP hn hk
  go_enter Tryz.func40, Tryz.ntmps40
  go_wp2_with fail
  refine (HS0.out.call fun F1 hI1 => (lkImpl I).below k w hI1 HT.out HRD.out.1 (by have := HRD.out; omega) HK.out).mono ?_
  rintro en w2 ⟨rfl, rd1, hs, r1, r2⟩
  have HR1 : Hid (rd ≤ rd1 ∧ rd1 ≤ rd + mostI l.length) := ⟨r1, r2⟩
  obtain ⟨O, hO⟩ : ∃ O, belowE l k = O := ⟨_, rfl⟩
  rw [hO]
  have HO := Lib.hid hO
  unfold enR enA
  have hs1 := hs.box #[Value.int .i64 (O.elim 0 (·.key)), .int .i64 (O.elim 0 (·.val))] 34
  clear hs r1 r2 hO HS0
  go_upto_region 2 with fail
  generalize w2.alloc (Obj.cells #[Value.int .i64 (O.elim 0 (·.key)), .int .i64 (O.elim 0 (·.val))] 34) = w3 at hs1 ⊢
  generalize w2.heap.size = q at hs1 ⊢
  have HS1 := Lib.hid hs1
  clear hs1
  cases O with
  | none =>
    have HE0 : Hid (lowE l k = []) := by
      have h0 := HO.out
      rcases below_spec HT.out.up k with ⟨-, h1⟩ | ⟨e, -, h2, -⟩
      · exact List.filter_eq_nil_iff.2 fun y hy => by have := h1 y hy; simp; omega
      · rw [h2] at h0; cases h0
    obtain ⟨m1, m2, m3, m4⟩ := (Mid.start HP.out.1 HP.out.2.1).ret (i := 0) (.inl rfl)
    have e0 : A.ret 0 = A := if_pos rfl
    rw [e0] at m1
    have HQ : Hid (CbQ A rd held l.length (lowE l k) (.returned (.tuple #[.int .u32 ((0 : Nat) : Int), .int .i64 0])) A rd1) := by
      rw [HE0.out]
      exact ⟨HR1.out.1, by have := HR1.out; have := HB.out; omega, 0, .nil, rfl, m1, .nil A, by omega⟩
    have HE := Lib.hid HS1.out.ends
    clear m1 m2 m3 m4 e0 HS1
    go_wp2_with fail
    go_ret2
    obtain ⟨F', hal, hI⟩ := HE.out
    exact ⟨F', A, rd1, hal, hI, HQ.out⟩
  | some x =>
    have HXE : Hid (x ∈ l ∧ upE l x.key = lowE l k) := by
      have h0 := HO.out
      rcases below_spec HT.out.up k with ⟨h1, -⟩ | ⟨e, h1, h2, h3, h4⟩
      · rw [h1] at h0; cases h0
      · rw [h2] at h0
        cases h0
        exact ⟨h1, low_of h3 h4⟩
    obtain ⟨y0, y1⟩ := two_ofE (HS1.out.boxes _ (List.Mem.head _)).2
    obtain ⟨P, hP⟩ : ∃ P, pathT A.nd x.key t = P := ⟨_, rfl⟩
    have HPP := Lib.hid hP
    clear hP
    have HXK : Hid (i64R x.key) := (HP.out.2.2.2.1 x HXE.out.1).1
    dsimp only [Option.elim] at y0 y1 ⊢
    go_wp2_with fail
    refine (HS1.out.path (P := P) fun F1 hI1 => (by have h := (lkImpl I).path x.key w3 hI1 HT.out (by have := HRD.out; have := HR1.out; omega) (by have := HRD.out; have := HR1.out; have := HB.out; omega) HXK.out; rw [HPP.out] at h; exact h)).mono ?_
    rintro eA wA ⟨rdA, aa, ac, rfl, hsA, a1, a2⟩
    have HSA := Lib.hid hsA
    have HRA : Hid (rd ≤ rdA ∧ rdA ≤ rd + 2 * mostI l.length) := ⟨by have := HR1.out; omega, by have := HR1.out; omega⟩
    clear hsA a1 a2 HS1 y0 y1
    go_wp2_with fail
    refine (HSA.out.mutO fun F1 hI1 hF1 => upTo_all I t wA ⟨hI1, HP.out.1, HP.out.2.1, HP.out.2.2.1, HT.out.at_, HT.out.up, HP.out.2.2.2.1, get_mem HXE.out.1, HP.out.2.2.2.2.1, by have := HRD.out; have := HRA.out; omega, by have := HRD.out; have := HRA.out; have := HB.out; omega, HP.out.2.2.2.2.2, by rw [HPP.out]; exact PathAt.ofRow (HSA.out.rows ⟨28, 1, .slice aa P.length ac, P.length, u32s P⟩ (List.Mem.head _)) (fun g hg => hF1 g (.inr (.inl ⟨_, List.Mem.head _, hg⟩))), by rw [HPP.out]⟩).mono ?_
    rintro eB wB ⟨B, rdB, ⟨q0, q1, j, u, rfl, q2, q3, q4⟩, hsB⟩
    rw [HXE.out.2] at q1 q3 q4
    have HQ : Hid (CbQ A rd held l.length (lowE l k) (.returned (.tuple #[.int .u32 (j : Int), .int .i64 0])) B rdB) := ⟨by have := HRA.out; omega, by have := HRA.out; omega, j, u, rfl, q2, q3, q4⟩
    have HE := Lib.hid hsB.ends
    clear hsB HSA q0 q1 q2 q3 q4
    go_wp2_with fail
    go_ret2
    obtain ⟨F', hal, hI⟩ := HE.out
    exact ⟨F', B, rdB, hal, hI, HQ.out⟩
set_option maxHeartbeats 16000000 in
set_option maxRecDepth 100000 in
theorem aboveC_any (I : AImpl) {p : Value} {A : Ar} {rd : Int} {F : Nat → Prop} {held : Nat → Nat} {i : Nat} {t : Tr} {l : List En} (k : Int) (w : World) (hP : CbP I w p A rd F held i t l) (hk : i64R k) :
    Calls Tryz.prog 41 #[p, .int .u32 (i : Int), .int .i64 k] w (Mut I p F (CbQ A rd held l.length (highE l k)) w) := by
  obtain ⟨pa, rfl⟩ := I.ptr hP.is
  have HS0 := Lib.hid (Ins.start hP.is)
  have hn := hP.tree.few
  have HB := Lib.hid (cut_bdC hn)
  have HT := Lib.hid hP.tree
  have HP : Hid (A.Inv [] held ∧ A.Agg ∧ (∀ j, held j ≤ 1048100) ∧ WfL l ∧ l.length ≤ 65536 ∧ 4 * xh l.length + 4 * (xh l.length + 2) ≤ A.σ.free.length) := ⟨hP.inv, hP.tree.agg, hP.few, hP.wf, hn, hP.room⟩
  have HRD : Hid (0 ≤ rd ∧ rd ≤ 1099509500000) := ⟨hP.rd0, hP.rd1⟩
  have HK : Hid (i64R k) := hk
  clear hP hn hk
  go_enter Tryz.func41, Tryz.ntmps41
  go_wp2_with fail
  refine (HS0.out.call fun F1 hI1 => (lkImpl I).above k w hI1 HT.out HRD.out.1 (by have := HRD.out; omega) HK.out).mono ?_
  rintro en w2 ⟨rfl, rd1, hs, r1, r2⟩
  have HR1 : Hid (rd ≤ rd1 ∧ rd1 ≤ rd + mostI l.length) := ⟨r1, r2⟩
  obtain ⟨O, hO⟩ : ∃ O, aboveE l k = O := ⟨_, rfl⟩
  rw [hO]
  have HO := Lib.hid hO
  unfold enR enA
  have hs1 := hs.box #[Value.int .i64 (O.elim 0 (·.key)), .int .i64 (O.elim 0 (·.val))] 34
  clear hs r1 r2 hO HS0
  go_upto_region 2 with fail
  generalize w2.alloc (Obj.cells #[Value.int .i64 (O.elim 0 (·.key)), .int .i64 (O.elim 0 (·.val))] 34) = w3 at hs1 ⊢
  generalize w2.heap.size = q at hs1 ⊢
  have HS1 := Lib.hid hs1
  clear hs1
  cases O with
  | none =>
    have HE0 : Hid (highE l k = []) := by
      have h0 := HO.out
      rw [above_ceil HT.out.up] at h0
      rcases ceil_spec HT.out.up (k + 1) with ⟨-, h1⟩ | ⟨e, -, h2, -⟩
      · exact List.filter_eq_nil_iff.2 fun y hy => by have := h1 y hy; simp; omega
      · rw [h2] at h0; cases h0
    obtain ⟨m1, m2, m3, m4⟩ := (Mid.start HP.out.1 HP.out.2.1).ret (i := 0) (.inl rfl)
    have e0 : A.ret 0 = A := if_pos rfl
    rw [e0] at m1
    have HQ : Hid (CbQ A rd held l.length (highE l k) (.returned (.tuple #[.int .u32 ((0 : Nat) : Int), .int .i64 0])) A rd1) := by
      rw [HE0.out]
      exact ⟨HR1.out.1, by have := HR1.out; have := HB.out; omega, 0, .nil, rfl, m1, .nil A, by omega⟩
    have HE := Lib.hid HS1.out.ends
    clear m1 m2 m3 m4 e0 HS1
    go_wp2_with fail
    go_ret2
    obtain ⟨F', hal, hI⟩ := HE.out
    exact ⟨F', A, rd1, hal, hI, HQ.out⟩
  | some x =>
    have HXE : Hid (x ∈ l ∧ fromE l x.key = highE l k) := by
      have h0 := HO.out
      rw [above_ceil HT.out.up] at h0
      rcases ceil_spec HT.out.up (k + 1) with ⟨h1, -⟩ | ⟨e, h1, h2, h3, h4⟩
      · rw [h1] at h0; cases h0
      · rw [h2] at h0
        cases h0
        exact ⟨h1, high_of h3 h4⟩
    obtain ⟨y0, y1⟩ := two_ofE (HS1.out.boxes _ (List.Mem.head _)).2
    obtain ⟨P, hP⟩ : ∃ P, pathT A.nd x.key t = P := ⟨_, rfl⟩
    have HPP := Lib.hid hP
    clear hP
    have HXK : Hid (i64R x.key) := (HP.out.2.2.2.1 x HXE.out.1).1
    dsimp only [Option.elim] at y0 y1 ⊢
    go_wp2_with fail
    refine (HS1.out.path (P := P) fun F1 hI1 => (by have h := (lkImpl I).path x.key w3 hI1 HT.out (by have := HRD.out; have := HR1.out; omega) (by have := HRD.out; have := HR1.out; have := HB.out; omega) HXK.out; rw [HPP.out] at h; exact h)).mono ?_
    rintro eA wA ⟨rdA, aa, ac, rfl, hsA, a1, a2⟩
    have HSA := Lib.hid hsA
    have HRA : Hid (rd ≤ rdA ∧ rdA ≤ rd + 2 * mostI l.length) := ⟨by have := HR1.out; omega, by have := HR1.out; omega⟩
    clear hsA a1 a2 HS1 y0 y1
    go_wp2_with fail
    refine (HSA.out.mutO fun F1 hI1 hF1 => from_all I t wA ⟨hI1, HP.out.1, HP.out.2.1, HP.out.2.2.1, HT.out.at_, HT.out.up, HP.out.2.2.2.1, get_mem HXE.out.1, HP.out.2.2.2.2.1, by have := HRD.out; have := HRA.out; omega, by have := HRD.out; have := HRA.out; have := HB.out; omega, HP.out.2.2.2.2.2, by rw [HPP.out]; exact PathAt.ofRow (HSA.out.rows ⟨28, 1, .slice aa P.length ac, P.length, u32s P⟩ (List.Mem.head _)) (fun g hg => hF1 g (.inr (.inl ⟨_, List.Mem.head _, hg⟩))), by rw [HPP.out]⟩).mono ?_
    rintro eB wB ⟨B, rdB, ⟨q0, q1, j, u, rfl, q2, q3, q4⟩, hsB⟩
    rw [HXE.out.2] at q1 q3 q4
    have HQ : Hid (CbQ A rd held l.length (highE l k) (.returned (.tuple #[.int .u32 (j : Int), .int .i64 0])) B rdB) := ⟨by have := HRA.out; omega, by have := HRA.out; omega, j, u, rfl, q2, q3, q4⟩
    have HE := Lib.hid hsB.ends
    clear hsB HSA q0 q1 q2 q3 q4
    go_wp2_with fail
    go_ret2
    obtain ⟨F', hal, hI⟩ := HE.out
    exact ⟨F', B, rdB, hal, hI, HQ.out⟩
theorem out_len (l : List En) (lo hi : Int) : (betE l lo hi).length + (outE l lo hi).length = l.length := by
  unfold betE outE
  induction l with
  | nil => rfl
  | cons x t ih =>
    rw [List.filter_cons, List.filter_cons]
    by_cases h : lo ≤ x.key ∧ x.key ≤ hi
    · rw [if_pos (by simpa using h), if_neg (by simp; omega)]
      simp only [List.length_cons]
      omega
    · rw [if_neg (by simpa using h), if_pos (by simp; omega)]
      simp only [List.length_cons]
      omega
theorem out_none {l : List En} {lo hi : Int} (h : (betE l lo hi).length = l.length) : outE l lo hi = [] := List.eq_nil_of_length_eq_zero (by have := out_len l lo hi; omega)
theorem bet_whole {l : List En} {lo hi : Int} (h : (betE l lo hi).length = l.length) : betE l lo hi = l := (List.filter_sublist).eq_of_length h
theorem out_whole {l : List En} {lo hi : Int} (h : (betE l lo hi).length = 0) : outE l lo hi = l := (List.filter_sublist).eq_of_length (by have := out_len l lo hi; exact show (outE l lo hi).length = l.length by omega)
set_option maxHeartbeats 32000000 in
set_option maxRecDepth 100000 in
theorem keepB_any (I : AImpl) {p : Value} {A : Ar} {rd : Int} {F : Nat → Prop} {held : Nat → Nat} {i : Nat} {t : Tr} {l : List En} (lo hi : Int) (w : World) (hI : I.Is w p A rd F) (hv : A.Inv [] held) (hm : ∀ j, held j ≤ 1048000) (hT : TreeAt A i t l) (hw : WfL l) (h0 : 0 ≤ rd) (h1 : rd ≤ 1099509000000) (hlo : i64R lo) (hhi : i64R hi) :
    Calls Tryz.prog 16 #[p, .int .u32 (i : Int), .int .i64 lo, .int .i64 hi] w (Mut I p F (CutQ A rd held i l (betE l lo hi)) w) := by
  obtain ⟨pa, rfl⟩ := I.ptr hI
  have HS0 := Lib.hid (Ins.start hI)
  have hn := hT.few
  have HB := Lib.hid (cut_bdC hn)
  have HSP := Lib.hid (splitJ hn)
  have HT := Lib.hid hT
  have HZ : Hid (A.sz i = (l.length : Int) ∧ A.Idx i ∧ i < 4294967296 ∧ A.cnt i < 4611686018427387904) := ⟨hT.at_.sz hT.agg, hT.idx', hT.idx, cnt_few hv (fun j => Nat.le_trans (hm j) (by decide)) i⟩
  have HP : Hid (A.Inv [] held ∧ A.Agg ∧ (∀ j, held j ≤ 1048000) ∧ WfL l ∧ l.length ≤ 65536) := ⟨hv, hT.agg, hm, hw, hn⟩
  have HRD : Hid (0 ≤ rd ∧ rd ≤ 1099509000000) := ⟨h0, h1⟩
  have HK : Hid (i64R lo ∧ i64R hi) := ⟨hlo, hhi⟩
  have HIE : Hid (i = 0 ↔ l = []) := hT.at_.zero_iff (held := held)
  have HGOT : Hid (∀ {rdx : Int} {j : Nat} {u : Tr} {m : List En}, Mid A held A [] → True) := fun _ => trivial
  clear hI hv hm hT hw h0 h1 hlo hhi HGOT
  obtain ⟨C, hC⟩ : ∃ C, cntE l lo hi = C := ⟨_, rfl⟩
  have hn1 : ∃ N, l.length = N := ⟨_, rfl⟩
  obtain ⟨N, hN⟩ := hn1
  have HC : Hid (C = (betE l lo hi).length ∧ C ≤ N ∧ N ≤ 65536 ∧ l.length = N) := ⟨hC.symm, by rw [← hC, ← hN]; exact cntE_le l lo hi, by rw [← hN]; exact hn, hN⟩
  clear hn
  go_enter Tryz.func16, Tryz.ntmps16
  go_wp2_with fail
  refine (HS0.out.sz HRD.out.1 (by have := HRD.out; omega) HZ.out.2.2.1 HZ.out.2.1 HP.out.1.ok).mono ?_
  rintro en w1 ⟨rfl, hs1⟩
  rw [HZ.out.1]
  obtain ⟨rd1, hrd1⟩ : ∃ r, (rd + if i = 0 then 0 else 1) = r := ⟨_, rfl⟩
  have HR1 : Hid (rd ≤ rd1 ∧ rd1 ≤ rd + 1) := by
    show rd ≤ rd1 ∧ rd1 ≤ rd + 1
    rw [← hrd1]
    split <;> omega
  rw [hrd1] at hs1
  have HS1 := Lib.hid hs1
  clear hs1 hrd1 HS0
  rw [hN]
  go_wp2_with fail
  refine (HS1.out.call fun F1 hI1 => (rkImpl I).count lo hi w1 hI1 HT.out (by have := HRD.out; have := HR1.out; omega) (by have := HRD.out; have := HR1.out; omega) HK.out.1 HK.out.2).mono ?_
  rintro en w2 ⟨rfl, rd2, hs2, r1, r2⟩
  rw [hC]
  have HR2 : Hid (rd ≤ rd2 ∧ rd2 ≤ rd + 1 + 12 * ((xh l.length : Int) + 2)) := ⟨by have := HR1.out; omega, by have := HR1.out; unfold mostJ at r2; omega⟩
  have HS2 := Lib.hid hs2
  clear hs2 r1 r2 HS1 hC hN
  by_cases hczero : C = 0
  · have d1 : (C : Int) = 0 := by omega
    have d2 : ((C : Int) == 0) = true := by simp; omega
    have d3 : decide ((C : Int) = 0) = true := decide_eq_true d1
    have HW0 : Hid (betE l lo hi = []) := by
      show _ = _
      exact List.eq_nil_of_length_eq_zero (by have := HC.out; omega)
    obtain ⟨m1, m2, m3, m4⟩ := (Mid.start HP.out.1 HP.out.2.1).ret (i := 0) (.inl rfl)
    have e0 : A.ret 0 = A := if_pos rfl
    rw [e0] at m1
    have HQ : Hid (CutQ A rd held i l (betE l lo hi) (.returned (.tuple #[.int .u32 ((0 : Nat) : Int), .int .i64 0])) A rd2) := by
      rw [HW0.out]
      have hb := HB.out
      have hr := HR2.out
      refine ⟨hr.1, by unfold cutBd; omega, ?_⟩
      by_cases hl : l = []
      · exact .inl ⟨by rw [hl], by rw [HIE.out.2 hl], ⟨.nil, by rw [HIE.out.2 hl]; exact m1.got (.nil A)⟩, rfl⟩
      · exact .inr (.inl ⟨fun q => hl (List.eq_nil_of_length_eq_zero q.symm), rfl, rfl, m1.got (.nil A), rfl⟩)
    have HE := Lib.hid HS2.out.ends
    clear m1 m2 m3 m4 e0 HS2
    go_wp2_with fail
    go_ret2
    obtain ⟨F', hal, hI⟩ := HE.out
    exact ⟨F', _, rd2, hal, hI, HQ.out⟩
  have fzero1 : ¬ (C : Int) = 0 := by omega
  have fzero2 : ((C : Int) == 0) = false := by simp; omega
  have fzero3 : decide ((C : Int) = 0) = false := decide_eq_false fzero1
  by_cases hcall : C = N
  · have d1 : (C : Int) = (N : Int) := by omega
    have d2 : ((C : Int) == (N : Int)) = true := by simp; omega
    have d3 : decide ((C : Int) = (N : Int)) = true := decide_eq_true d1
    have HWA : Hid (betE l lo hi = l) := by
      show _ = _
      exact bet_whole (by have := HC.out; omega)
    obtain ⟨m1, m2, m3, m4⟩ := (Mid.start HP.out.1 HP.out.2.1).ret (i := i) HZ.out.2.1
    have HQ : Hid (CutQ A rd held i l (betE l lo hi) (.returned (.tuple #[.int .u32 (i : Int), .int .i64 0])) (A.ret i) rd2) := by
      rw [HWA.out]
      have hb := HB.out
      have hr := HR2.out
      exact ⟨hr.1, by unfold cutBd; omega, .inl ⟨rfl, rfl, ⟨t, m1.got (HT.out.at_.kept m2)⟩, by rw [m3]⟩⟩
    clear m1 m2 m3 m4
    go_wp2_with fail
    refine (HS2.out.retain HZ.out.2.2.1 HZ.out.2.1 HZ.out.2.2.2).mono ?_
    rintro en w3 ⟨rfl, hs3⟩
    have HE := Lib.hid hs3.ends
    clear hs3 HS2
    go_wp2_with fail
    go_ret2
    obtain ⟨F', hal, hI⟩ := HE.out
    exact ⟨F', _, rd2, hal, hI, HQ.out⟩
  have fall1 : ¬ (C : Int) = (N : Int) := by omega
  have fall2 : ((C : Int) == (N : Int)) = false := by simp; omega
  have fall3 : decide ((C : Int) = (N : Int)) = false := decide_eq_false fall1
  go_wp2_with fail
  refine HS2.out.free.mono ?_
  rintro en w3 ⟨rfl, hs3⟩
  have HS3 := Lib.hid hs3
  clear hs3 HS2
  go_wp2_with fail
  refine (rsSplit_any (N : Int) w3 (by have := HC.out; unfold in64; omega)).mono ?_
  rintro en w4 ⟨rfl, hb4⟩
  have HS4 := Lib.hid (HS3.out.calm hb4)
  have HSPN : Hid (splitI (N : Int) = 12 * ((xh l.length : Int) + 2)) := by have h := HSP.out; rw [HC.out.2.2.2] at h ⊢; exact h
  have HWL : Hid ((betE l lo hi).length ≠ l.length ∧ betE l lo hi ≠ []) := ⟨by have := HC.out; omega, fun q => by have := HC.out; rw [q] at this; simp at this; omega⟩
  clear hb4 HS3
  by_cases hfr : (A.σ.free.length : Int) < splitI (N : Int)
  · have d1 : decide ((A.σ.free.length : Int) < splitI (N : Int)) = true := decide_eq_true hfr
    have HQ : Hid (CutQ A rd held i l (betE l lo hi) (.returned (.tuple #[.int .u32 0, .int .i64 2])) A rd2) := by
      have hr := HR2.out
      exact ⟨hr.1, by unfold cutBd; omega, .inr (.inr (.inl ⟨HWL.out.1, HWL.out.2, by rw [HC.out.2.2.2]; exact hfr, rfl, rfl⟩))⟩
    have HE := Lib.hid HS4.out.ends
    clear HS4
    go_wp2_with fail
    go_ret2
    obtain ⟨F', hal, hI⟩ := HE.out
    exact ⟨F', _, rd2, hal, hI, HQ.out⟩
  have d1 : decide ((A.σ.free.length : Int) < splitI (N : Int)) = false := decide_eq_false hfr
  have HFR : Hid (splitI (N : Int) ≤ (A.σ.free.length : Int)) := Int.not_lt.1 hfr
  clear hfr

  have HFX : Hid (∃ x, floorE l hi = some x ∧ x ∈ l ∧ upE l x.key = upE l hi) := by
    show ∃ _, _
    rw [floor_below HT.out.up]
    rcases below_spec HT.out.up (hi + 1) with ⟨-, h1⟩ | ⟨e, h1, h2, h3, h4⟩
    · exact absurd (bet_nil_of fun y hy => .inr (by have := h1 y hy; omega)) HWL.out.2
    · exact ⟨e, h2, h1, up_of (by omega) fun y hy q => h4 y hy (by omega)⟩
  obtain ⟨x, hx1, hx2, hx3⟩ := HFX.out
  have HX1 := Lib.hid hx1
  have HX2 : Hid (x ∈ l ∧ upE l x.key = upE l hi ∧ i64R x.key) := ⟨hx2, hx3, (HP.out.2.2.2.1 x hx2).1⟩
  clear hx1 hx2 hx3 HFX
  go_wp2_with fail
  refine (HS4.out.call fun F1 hI1 => (lkImpl I).floor hi w4 hI1 HT.out (by have := HRD.out; have := HR2.out; omega) (by have := HRD.out; have := HR2.out; have := HB.out; omega) HK.out.2).mono ?_
  rintro en w5 ⟨rfl, rd5, hs5, r1, r2⟩
  rw [HX1.out]
  unfold enR enA
  dsimp only [Option.elim]
  have HR5 : Hid (rd ≤ rd5 ∧ rd5 ≤ rd + 1 + 16 * ((xh l.length : Int) + 2)) := ⟨by have := HR2.out; omega, by have := HR2.out; have := HB.out; omega⟩
  have hs6 := hs5.box #[Value.int .i64 x.key, .int .i64 x.val] 34
  clear hs5 r1 r2 HS4
  go_upto_region 9 with fail
  generalize w5.alloc (Obj.cells #[Value.int .i64 x.key, .int .i64 x.val] 34) = w6 at hs6 ⊢
  generalize w5.heap.size = q at hs6 ⊢
  have HS6 := Lib.hid hs6
  clear hs6
  obtain ⟨y0, y1⟩ := two_ofE (HS6.out.boxes _ (List.Mem.head _)).2
  obtain ⟨P, hP⟩ : ∃ P, pathT A.nd x.key t = P := ⟨_, rfl⟩
  have HPP := Lib.hid hP
  clear hP
  go_wp2_with fail
  refine (HS6.out.path (P := P) fun F1 hI1 => (by have h := (lkImpl I).path x.key w6 hI1 HT.out (by have := HRD.out; have := HR5.out; omega) (by have := HRD.out; have := HR5.out; have := HB.out; omega) HX2.out.2.2; rw [HPP.out] at h; exact h)).mono ?_
  rintro eA wA ⟨rdA, aa, ac, rfl, hsA, a1, a2⟩
  have HSA := Lib.hid hsA
  have HRA : Hid (rd ≤ rdA ∧ rdA ≤ rd + 1 + 20 * ((xh l.length : Int) + 2)) := ⟨by have := HR5.out; omega, by have := HR5.out; have := HB.out; omega⟩
  clear hsA a1 a2 HS6 y0 y1
  go_wp2_with fail
  refine (HSA.out.mutO fun F1 hI1 hF1 => upTo_all I t wA ⟨hI1, HP.out.1, HP.out.2.1, fun j => Nat.le_trans (HP.out.2.2.1 j) (by decide), HT.out.at_, HT.out.up, HP.out.2.2.2.1, get_mem HX2.out.1, HP.out.2.2.2.2, by have := HRD.out; have := HRA.out; omega, by have := HRD.out; have := HRA.out; have := HB.out; omega, by have h1 := HFR.out; have h2 := HSPN.out; omega, by rw [HPP.out]; exact PathAt.ofRow (HSA.out.rows ⟨28, 1, .slice aa P.length ac, P.length, u32s P⟩ (List.Mem.head _)) (fun g hg => hF1 g (.inr (.inl ⟨_, List.Mem.head _, hg⟩))), by rw [HPP.out]⟩).mono ?_
  rintro eB wB ⟨B, rdB, ⟨q0, q1, j, u, rfl, q2, q3, q4⟩, hsB⟩
  rw [HX2.out.2.1] at q1 q3 q4
  obtain ⟨M, hM⟩ : ∃ M, upE l hi = M := ⟨_, rfl⟩
  have hML : M.length ≤ l.length := by rw [← hM]; exact upE_len l hi
  have hMX := xh_up hML (by have := HP.out.2.2.2.2; omega)
  have hMB : betE l lo hi = fromE M lo := by rw [← hM, from_up]
  have hMU : Up M := by rw [← hM]; exact List.Pairwise.filter _ HT.out.up
  have hMW : WfL M := by rw [← hM]; exact fun y hy => HP.out.2.2.2.1 y (List.mem_filter.1 hy).1
  rw [hM] at q1 q3 q4
  have HM : Hid (M.length ≤ l.length ∧ xh M.length ≤ xh l.length ∧ betE l lo hi = fromE M lo ∧ Up M ∧ WfL M ∧ mostI M.length = 4 * ((xh M.length : Int) + 2) ∧ sqN (xh M.length) ≤ 47 * xh M.length ∧ M.length ≤ 65536) := ⟨hML, hMX, hMB, hMU, hMW, rfl, sq_40 (by have := HB.out; omega), by have := HP.out.2.2.2.2; omega⟩
  have HRB : Hid (rd ≤ rdB ∧ rdB ≤ rd + 1 + 20 * ((xh l.length : Int) + 2) + 61 * (xh l.length : Int)) := ⟨by have := HRA.out; omega, by have := HRA.out; have := HB.out; omega⟩
  have HQB : Hid (Mid A held B [j] ∧ At B j u M ∧ A.σ.free.length ≤ B.σ.free.length + 4 * xh M.length) := ⟨q2, q3, q4⟩
  have HTB := Lib.hid (TreeAt.of q3 q2.inv q2.agg hMU)
  have HSB := Lib.hid hsB
  have HFY : Hid (∃ y, ceilE M lo = some y ∧ y ∈ M ∧ fromE M y.key = fromE M lo) := by
    show ∃ _, _
    rcases ceil_spec hMU lo with ⟨-, h1⟩ | ⟨e, h1, h2, h3, h4⟩
    · refine absurd ?_ HWL.out.2
      rw [hMB]
      exact List.filter_eq_nil_iff.2 fun y hy => by have := h1 y hy; simp; omega
    · exact ⟨e, h2, h1, from_of h3 h4⟩
  obtain ⟨y, hy1, hy2, hy3⟩ := HFY.out
  have HY1 := Lib.hid hy1
  have HY2 : Hid (y ∈ M ∧ fromE M y.key = betE l lo hi ∧ i64R y.key) := ⟨hy2, by rw [hMB]; exact hy3, (hMW y hy2).1⟩
  clear hsB HSA q0 q1 q2 q3 q4 hM hML hMX hMB hMU hMW hy1 hy2 hy3 HFY
  go_wp2_with fail
  refine (HSB.out.call fun F1 hI1 => (lkImpl I).ceiling lo wB hI1 HTB.out (by have := HRD.out; have := HRB.out; omega) (by have := HRD.out; have := HRB.out; have := HB.out; omega) HK.out.1).mono ?_
  rintro en w7 ⟨rfl, rd7, hs7, r1, r2⟩
  rw [HY1.out]
  unfold enR enA
  dsimp only [Option.elim]
  have HR7 : Hid (rd ≤ rd7 ∧ rd7 ≤ rd + 1 + 24 * ((xh l.length : Int) + 2) + 61 * (xh l.length : Int)) := ⟨by have := HRB.out; omega, by have := HRB.out; have := HM.out.2.2.2.2.2.1; have := HM.out.2.1; omega⟩
  have hs8 := hs7.box #[Value.int .i64 y.key, .int .i64 y.val] 34
  clear hs7 r1 r2 HSB
  go_upto_region 13 with fail
  generalize w7.alloc (Obj.cells #[Value.int .i64 y.key, .int .i64 y.val] 34) = w8 at hs8 ⊢
  generalize w7.heap.size = q' at hs8 ⊢
  have HS8 := Lib.hid hs8
  clear hs8
  obtain ⟨y0, y1⟩ := two_ofE (HS8.out.boxes _ (List.Mem.head _)).2
  obtain ⟨P2, hP⟩ : ∃ P, pathT B.nd y.key u = P := ⟨_, rfl⟩
  have HPP2 := Lib.hid hP
  clear hP
  go_wp2_with fail
  refine (HS8.out.path (P := P2) fun F1 hI1 => (by have h := (lkImpl I).path y.key w8 hI1 HTB.out (by have := HRD.out; have := HR7.out; omega) (by have := HRD.out; have := HR7.out; have := HB.out; omega) HY2.out.2.2; rw [HPP2.out] at h; exact h)).mono ?_
  rintro eA wC ⟨rdC, aa2, ac2, rfl, hsC, a1, a2⟩
  have HSC := Lib.hid hsC
  have HRC : Hid (rd ≤ rdC ∧ rdC ≤ rd + 1 + 28 * ((xh l.length : Int) + 2) + 61 * (xh l.length : Int)) := ⟨by have := HR7.out; omega, by have := HR7.out; have := HM.out.2.2.2.2.2.1; have := HM.out.2.1; omega⟩
  clear hsC a1 a2 HS8 y0 y1
  go_wp2_with fail
  refine (HSC.out.mutO fun F1 hI1 hF1 => from_all I u wC ⟨hI1, HQB.out.1.inv, HQB.out.1.agg, fun q => by have := plL_le HP.out.2.2.1 [j] q; simp at this; omega, HQB.out.2.1, HM.out.2.2.2.1, HM.out.2.2.2.2.1, get_mem HY2.out.1, HM.out.2.2.2.2.2.2.2, by have := HRD.out; have := HRC.out; omega, by have h1 := HRD.out; have h2 := HRC.out; have h3 := HB.out; have h4 := HM.out; omega, by have h1 := HFR.out; have h2 := HSPN.out; have h3 := HQB.out.2.2; have h4 := HM.out.2.1; omega, by rw [HPP2.out]; exact PathAt.ofRow (HSC.out.rows ⟨28, 1, .slice aa2 P2.length ac2, P2.length, u32s P2⟩ (List.Mem.head _)) (fun g hg => hF1 g (.inr (.inl ⟨_, List.Mem.head _, hg⟩))), by rw [HPP2.out]⟩).mono ?_
  rintro eB wD ⟨C2, rdD, ⟨q0, q1, j2, t2, rfl, q2, q3, q4⟩, hsD⟩
  rw [HY2.out.2.1] at q1 q3 q4
  obtain ⟨u1, u2, u3, u4, u5⟩ := nest_give HQB.out.1 q2 q3
  have HU2 : Hid (C2.Inv [j] (plL held [j2]) ∧ C2.Idx j ∧ j < 4294967296) := ⟨u1, u2, idx_lt32B q2.inv u2⟩
  have HQ : Hid (CutQ A rd held i l (betE l lo hi) (.returned (.tuple #[.int .u32 (j2 : Int), .int .i64 0])) (C2.gone j) rdD) := by
    have h1 := HRC.out
    have h2 := HB.out
    have h3 := HM.out
    have h4 : xh (betE l lo hi).length ≤ xh l.length := xh_up (List.length_filter_le _ _) (by have := HP.out.2.2.2.2; omega)
    refine ⟨by omega, by unfold cutBd; omega, .inr (.inr (.inr ⟨HWL.out.1, HWL.out.2, by rw [HC.out.2.2.2]; exact HFR.out, j2, t2, rfl, u3.got u5⟩))⟩
  have HSD := Lib.hid hsD
  clear hsD HSC q0 q1 q2 q3 q4 u1 u2 u3 u4 u5
  go_wp2_with fail
  refine (HSD.out.release HU2.out.2.2 HU2.out.2.1 HU2.out.1).mono ?_
  rintro en w9 ⟨rfl, hs9⟩
  have HE := Lib.hid hs9.ends
  clear hs9 HSD
  go_wp2_with fail
  go_ret2
  obtain ⟨F', hal, hI⟩ := HE.out
  exact ⟨F', _, rdD, hal, hI, HQ.out⟩
set_option maxHeartbeats 32000000 in
set_option maxRecDepth 100000 in
theorem dropB_any (I : AImpl) {p : Value} {A : Ar} {rd : Int} {F : Nat → Prop} {held : Nat → Nat} {i : Nat} {t : Tr} {l : List En} (lo hi : Int) (w : World) (hI : I.Is w p A rd F) (hv : A.Inv [] held) (hm : ∀ j, held j ≤ 1048000) (hT : TreeAt A i t l) (hw : WfL l) (h0 : 0 ≤ rd) (h1 : rd ≤ 1099509000000) (hlo : i64R lo) (hhi : i64R hi) :
    Calls Tryz.prog 15 #[p, .int .u32 (i : Int), .int .i64 lo, .int .i64 hi] w (Mut I p F (CutQ A rd held i l (outE l lo hi)) w) := by
  obtain ⟨pa, rfl⟩ := I.ptr hI
  have HS0 := Lib.hid (Ins.start hI)
  have hn := hT.few
  have HB := Lib.hid (cut_bdC hn)
  have HSP := Lib.hid (splitJ hn)
  have HT := Lib.hid hT
  have HZ : Hid (A.sz i = (l.length : Int) ∧ A.Idx i ∧ i < 4294967296 ∧ A.cnt i < 4611686018427387904) := ⟨hT.at_.sz hT.agg, hT.idx', hT.idx, cnt_few hv (fun j => Nat.le_trans (hm j) (by decide)) i⟩
  have HP : Hid (A.Inv [] held ∧ A.Agg ∧ (∀ j, held j ≤ 1048000) ∧ WfL l ∧ l.length ≤ 65536) := ⟨hv, hT.agg, hm, hw, hn⟩
  have HRD : Hid (0 ≤ rd ∧ rd ≤ 1099509000000) := ⟨h0, h1⟩
  have HK : Hid (i64R lo ∧ i64R hi) := ⟨hlo, hhi⟩
  have HIE : Hid (i = 0 ↔ l = []) := hT.at_.zero_iff (held := held)
  have HGOT : Hid (∀ {rdx : Int} {j : Nat} {u : Tr} {m : List En}, Mid A held A [] → True) := fun _ => trivial
  clear hI hv hm hT hw h0 h1 hlo hhi HGOT
  obtain ⟨C, hC⟩ : ∃ C, cntE l lo hi = C := ⟨_, rfl⟩
  have hn1 : ∃ N, l.length = N := ⟨_, rfl⟩
  obtain ⟨N, hN⟩ := hn1
  have HC : Hid (C = (betE l lo hi).length ∧ C ≤ N ∧ N ≤ 65536 ∧ l.length = N) := ⟨hC.symm, by rw [← hC, ← hN]; exact cntE_le l lo hi, by rw [← hN]; exact hn, hN⟩
  clear hn
  go_enter Tryz.func15, Tryz.ntmps15
  go_wp2_with fail
  refine (HS0.out.sz HRD.out.1 (by have := HRD.out; omega) HZ.out.2.2.1 HZ.out.2.1 HP.out.1.ok).mono ?_
  rintro en w1 ⟨rfl, hs1⟩
  rw [HZ.out.1]
  obtain ⟨rd1, hrd1⟩ : ∃ r, (rd + if i = 0 then 0 else 1) = r := ⟨_, rfl⟩
  have HR1 : Hid (rd ≤ rd1 ∧ rd1 ≤ rd + 1) := by
    show rd ≤ rd1 ∧ rd1 ≤ rd + 1
    rw [← hrd1]
    split <;> omega
  rw [hrd1] at hs1
  have HS1 := Lib.hid hs1
  clear hs1 hrd1 HS0
  rw [hN]
  go_wp2_with fail
  refine (HS1.out.call fun F1 hI1 => (rkImpl I).count lo hi w1 hI1 HT.out (by have := HRD.out; have := HR1.out; omega) (by have := HRD.out; have := HR1.out; omega) HK.out.1 HK.out.2).mono ?_
  rintro en w2 ⟨rfl, rd2, hs2, r1, r2⟩
  rw [hC]
  have HR2 : Hid (rd ≤ rd2 ∧ rd2 ≤ rd + 1 + 12 * ((xh l.length : Int) + 2)) := ⟨by have := HR1.out; omega, by have := HR1.out; unfold mostJ at r2; omega⟩
  have HS2 := Lib.hid hs2
  clear hs2 r1 r2 HS1 hC hN
  by_cases hcall : C = N
  · have d1 : (C : Int) = (N : Int) := by omega
    have d2 : ((C : Int) == (N : Int)) = true := by simp; omega
    have d3 : decide ((C : Int) = (N : Int)) = true := decide_eq_true d1
    have HW0 : Hid (outE l lo hi = []) := by
      show _ = _
      exact out_none (by have := HC.out; omega)
    obtain ⟨m1, m2, m3, m4⟩ := (Mid.start HP.out.1 HP.out.2.1).ret (i := 0) (.inl rfl)
    have e0 : A.ret 0 = A := if_pos rfl
    rw [e0] at m1
    have HQ : Hid (CutQ A rd held i l (outE l lo hi) (.returned (.tuple #[.int .u32 ((0 : Nat) : Int), .int .i64 0])) A rd2) := by
      rw [HW0.out]
      have hb := HB.out
      have hr := HR2.out
      refine ⟨hr.1, by unfold cutBd; omega, ?_⟩
      by_cases hl : l = []
      · exact .inl ⟨by rw [hl], by rw [HIE.out.2 hl], ⟨.nil, by rw [HIE.out.2 hl]; exact m1.got (.nil A)⟩, rfl⟩
      · exact .inr (.inl ⟨fun q => hl (List.eq_nil_of_length_eq_zero q.symm), rfl, rfl, m1.got (.nil A), rfl⟩)
    have HE := Lib.hid HS2.out.ends
    clear m1 m2 m3 m4 e0 HS2
    go_wp2_with fail
    go_ret2
    obtain ⟨F', hal, hI⟩ := HE.out
    exact ⟨F', _, rd2, hal, hI, HQ.out⟩
  have fall1 : ¬ (C : Int) = (N : Int) := by omega
  have fall2 : ((C : Int) == (N : Int)) = false := by simp; omega
  have fall3 : decide ((C : Int) = (N : Int)) = false := decide_eq_false fall1
  by_cases hczero : C = 0
  · have d1 : (C : Int) = 0 := by omega
    have d2 : ((C : Int) == 0) = true := by simp; omega
    have d3 : decide ((C : Int) = 0) = true := decide_eq_true d1
    have HWA : Hid (outE l lo hi = l) := by
      show _ = _
      exact out_whole (by have := HC.out; omega)
    obtain ⟨m1, m2, m3, m4⟩ := (Mid.start HP.out.1 HP.out.2.1).ret (i := i) HZ.out.2.1
    have HQ : Hid (CutQ A rd held i l (outE l lo hi) (.returned (.tuple #[.int .u32 (i : Int), .int .i64 0])) (A.ret i) rd2) := by
      rw [HWA.out]
      have hb := HB.out
      have hr := HR2.out
      exact ⟨hr.1, by unfold cutBd; omega, .inl ⟨rfl, rfl, ⟨t, m1.got (HT.out.at_.kept m2)⟩, by rw [m3]⟩⟩
    clear m1 m2 m3 m4
    go_wp2_with fail
    refine (HS2.out.retain HZ.out.2.2.1 HZ.out.2.1 HZ.out.2.2.2).mono ?_
    rintro en w3 ⟨rfl, hs3⟩
    have HE := Lib.hid hs3.ends
    clear hs3 HS2
    go_wp2_with fail
    go_ret2
    obtain ⟨F', hal, hI⟩ := HE.out
    exact ⟨F', _, rd2, hal, hI, HQ.out⟩
  have fzero1 : ¬ (C : Int) = 0 := by omega
  have fzero2 : ((C : Int) == 0) = false := by simp; omega
  have fzero3 : decide ((C : Int) = 0) = false := decide_eq_false fzero1
  go_wp2_with fail
  refine HS2.out.free.mono ?_
  rintro en w3 ⟨rfl, hs3⟩
  have HS3 := Lib.hid hs3
  clear hs3 HS2
  go_wp2_with fail
  refine (rsSplit_any (N : Int) w3 (by have := HC.out; unfold in64; omega)).mono ?_
  rintro en w4 ⟨rfl, hb4⟩
  have HS4 := Lib.hid (HS3.out.calm hb4)
  have HSPN : Hid (splitI (N : Int) = 12 * ((xh l.length : Int) + 2)) := by have h := HSP.out; rw [HC.out.2.2.2] at h ⊢; exact h
  have HWL : Hid ((outE l lo hi).length ≠ l.length ∧ outE l lo hi ≠ []) := ⟨by have h1 := out_len l lo hi; have := HC.out; omega, fun q => by have h1 := out_len l lo hi; have := HC.out; rw [q] at h1; simp at h1; omega⟩
  clear hb4 HS3
  by_cases hfr : (A.σ.free.length : Int) < splitI (N : Int)
  · have d1 : decide ((A.σ.free.length : Int) < splitI (N : Int)) = true := decide_eq_true hfr
    have HQ : Hid (CutQ A rd held i l (outE l lo hi) (.returned (.tuple #[.int .u32 0, .int .i64 2])) A rd2) := by
      have hr := HR2.out
      exact ⟨hr.1, by unfold cutBd; omega, .inr (.inr (.inl ⟨HWL.out.1, HWL.out.2, by rw [HC.out.2.2.2]; exact hfr, rfl, rfl⟩))⟩
    have HE := Lib.hid HS4.out.ends
    clear HS4
    go_wp2_with fail
    go_ret2
    obtain ⟨F', hal, hI⟩ := HE.out
    exact ⟨F', _, rd2, hal, hI, HQ.out⟩
  have d1 : decide ((A.σ.free.length : Int) < splitI (N : Int)) = false := decide_eq_false hfr
  have HFR : Hid (splitI (N : Int) ≤ (A.σ.free.length : Int)) := Int.not_lt.1 hfr
  clear hfr

  have HLH : Hid (lo ≤ hi) := by
    show _ ≤ _
    rcases Int.lt_or_le hi lo with h | h
    · exact absurd (cnt_none l h) (by have := HC.out; unfold cntE; omega)
    · exact h
  have HPT : Hid (outE l lo hi = lowE l lo ++ highE l hi ∧ (lowE l lo).length + (highE l hi).length + 1 ≤ l.length ∧ Up (lowE l lo ++ highE l hi)) := by
    have h1 := out_parts HT.out.up HLH.out
    have h2 := out_len l lo hi
    have h3 := HC.out
    refine ⟨h1, ?_, ?_⟩
    · rw [h1, List.length_append] at h2; omega
    · rw [← h1]; exact out_up HT.out.up lo hi
  have HLW : Hid (Up (lowE l lo) ∧ Up (highE l hi) ∧ WfL (lowE l lo) ∧ WfL (highE l hi)) := ⟨List.Pairwise.filter _ HT.out.up, List.Pairwise.filter _ HT.out.up, fun y hy => HP.out.2.2.2.1 y (List.mem_filter.1 hy).1, fun y hy => HP.out.2.2.2.1 y (List.mem_filter.1 hy).1⟩
  obtain ⟨LO, hLO⟩ : ∃ x, lowE l lo = x := ⟨_, rfl⟩
  obtain ⟨HG, hHG⟩ : ∃ x, highE l hi = x := ⟨_, rfl⟩
  have HE1 : Hid (lowE l lo = LO ∧ highE l hi = HG) := ⟨hLO, hHG⟩
  rw [hLO, hHG] at HPT HLW
  have HXB : Hid (xh LO.length ≤ xh l.length ∧ xh HG.length ≤ xh l.length ∧ xh (LO.length + HG.length + 1) ≤ xh l.length ∧ mostI LO.length = 4 * ((xh LO.length : Int) + 2) ∧ mostI HG.length = 4 * ((xh HG.length : Int) + 2)) := by
    have h1 := HPT.out.2.1
    have h2 := HP.out.2.2.2.2
    exact ⟨xh_up (by omega) (by omega), xh_up (by omega) (by omega), xh_up h1 (by omega), rfl, rfl⟩
  clear hLO hHG
  go_wp2_with fail
  refine (HS4.out.mut fun F1 hI1 => belowC_any I lo w4 ⟨hI1, HP.out.1, fun j => Nat.le_trans (HP.out.2.2.1 j) (by decide), HT.out, HP.out.2.2.2.1, by have := HRD.out; have := HR2.out; omega, by have := HRD.out; have := HR2.out; have := HB.out; omega, by have h1 := HFR.out; have h2 := HSPN.out; omega⟩ HK.out.1).mono ?_
  rintro en w5 ⟨B, rd5, ⟨q0, q1, j, u, rfl, q2, q3, q4⟩, hs5⟩
  rw [HE1.out.1] at q1 q3 q4
  have HR5 : Hid (rd ≤ rd5 ∧ rd5 ≤ rd + 1 + 20 * ((xh l.length : Int) + 2) + 61 * (xh l.length : Int)) := ⟨by have := HR2.out; omega, by have := HR2.out; have := HB.out; have := HXB.out; omega⟩
  have HQ5 : Hid (Mid A held B [j] ∧ At B j u LO ∧ A.σ.free.length ≤ B.σ.free.length + 4 * xh LO.length) := ⟨q2, q3, q4⟩
  have HTB := Lib.hid (HT.out.kept q2.kept q2.inv q2.agg)
  have HS5 := Lib.hid hs5
  clear hs5 HS4 q0 q1 q2 q3 q4
  go_wp2_with fail
  refine (HS5.out.mut fun F1 hI1 => aboveC_any I hi w5 ⟨hI1, HQ5.out.1.inv, fun q => by have := plL_le HP.out.2.2.1 [j] q; simp at this; omega, HTB.out, HP.out.2.2.2.1, by have := HRD.out; have := HR5.out; omega, by have := HRD.out; have := HR5.out; have := HB.out; omega, by have h1 := HFR.out; have h2 := HSPN.out; have h3 := HQ5.out.2.2; have h4 := HXB.out; omega⟩ HK.out.2).mono ?_
  rintro en w6 ⟨C2, rd6, ⟨q0, q1, j2, u2, rfl, q2, q3, q4⟩, hs6⟩
  rw [HE1.out.2] at q1 q3 q4
  have hM2 : Mid A held C2 [j2, j] := HQ5.out.1.nest q2
  have HR6 : Hid (rd ≤ rd6 ∧ rd6 ≤ rd + 1 + 28 * ((xh l.length : Int) + 2) + 122 * (xh l.length : Int)) := ⟨by have := HR5.out; omega, by have := HR5.out; have := HB.out; have := HXB.out; omega⟩
  have HM2 := Lib.hid hM2
  have HT1 := Lib.hid (TreeAt.of (HQ5.out.2.1.kept q2.kept) hM2.inv hM2.agg HLW.out.1)
  have HT2 := Lib.hid (TreeAt.of q3 hM2.inv hM2.agg HLW.out.2.1)
  have HF6 : Hid (A.σ.free.length ≤ C2.σ.free.length + 4 * xh LO.length + 4 * xh HG.length) := by have := HQ5.out.2.2; show _ ≤ _; omega
  have HS6 := Lib.hid hs6
  clear hs6 HS5 q0 q1 q2 q3 q4 hM2
  go_wp2_with fail
  refine (HS6.out.mut fun F1 hI1 => concatH_any I w6 hI1 HM2.out.inv (fun q => by have := plL_le HP.out.2.2.1 [j2, j] q; simp at this; omega) HT1.out HT2.out HLW.out.2.2.1 HLW.out.2.2.2 (by have := HRD.out; have := HR6.out; omega) (by have := HRD.out; have := HR6.out; have := HB.out; omega)).mono ?_
  rintro en w7 ⟨D, rd7, ⟨hq, z1, z2⟩, hs7⟩
  obtain ⟨z3, -, j3, u3, rfl, hg⟩ := hq.room HPT.out.2.2 (by
    have h1 := HFR.out
    have h2 := HSPN.out
    have h3 := HF6.out
    have h4 := HXB.out
    have h5 := HPT.out.2.1
    have h6 := HP.out.2.2.2.2
    rw [joinJ (by omega) (by omega)]
    omega)
  obtain ⟨hm3, ha3⟩ := hg.midB HM2.out.inv HM2.out.agg
  have hM3 : Mid A held D [j3, j2, j] := HM2.out.nest hm3
  obtain ⟨g1, g2, g3, g4, g5, -⟩ := (hM3.perm (show ([j3, j2, j] : List Nat).Perm [j, j3, j2] from by
    have h1 : ([j3, j2, j] : List Nat).Perm (j :: [j3, j2]) := List.perm_append_comm (l₁ := [j3, j2]) (l₂ := [j])
    exact h1)).give
  have ha4 := ha3.gone g3.inv (g5 j3 (by simp) ha3.idx)
  obtain ⟨k1, k2, k3, k4, k5, -⟩ := (g3.perm (List.Perm.swap j2 j3 [])).give
  have ha5 := ha4.gone k3.inv (k5 j3 (by simp) ha4.idx)
  have HU1 : Hid (D.Inv [j] (plL held [j3, j2]) ∧ D.Idx j ∧ j < 4294967296) := ⟨g1, g2, idx_lt32B hM3.inv g2⟩
  have HU2 : Hid ((D.gone j).Inv [j2] (plL held [j3]) ∧ (D.gone j).Idx j2 ∧ j2 < 4294967296) := ⟨k1, k2, idx_lt32B g3.inv k2⟩
  have HQ : Hid (CutQ A rd held i l (outE l lo hi) (.returned (.tuple #[.int .u32 (j3 : Int), .int .i64 0])) ((D.gone j).gone j2) rd7) := by
    have h1 := HR6.out
    have h2 := HB.out
    have h3 := HXB.out
    refine ⟨by omega, by unfold cutBd; omega, .inr (.inr (.inr ⟨HWL.out.1, HWL.out.2, by rw [HC.out.2.2.2]; exact HFR.out, j3, u3, rfl, ?_⟩))⟩
    rw [HPT.out.1]
    exact k3.got ha5
  have HS7 := Lib.hid hs7
  clear hs7 HS6 hq z1 z2 z3 hg hm3 ha3 hM3 g1 g2 g3 g4 g5 ha4 k1 k2 k3 k4 k5 ha5
  go_wp2_with fail
  refine (HS7.out.release HU1.out.2.2 HU1.out.2.1 HU1.out.1).mono ?_
  rintro en w8 ⟨rfl, hs8⟩
  have HS8 := Lib.hid hs8
  clear hs8 HS7
  go_wp2_with fail
  refine (HS8.out.release HU2.out.2.2 HU2.out.2.1 HU2.out.1).mono ?_
  rintro en w9 ⟨rfl, hs9⟩
  have HE := Lib.hid hs9.ends
  clear hs9 HS8
  go_wp2_with fail
  go_ret2
  obtain ⟨F', hal, hI⟩ := HE.out
  exact ⟨F', _, rd7, hal, hI, HQ.out⟩
end Go.Proofs.YtnimbgcploohiaaGreat
set_option linter.unusedVariables false
set_option linter.unusedSimpArgs false
namespace Go.Proofs.YtnimbgcploohiaaGreat
theorem bkImpl (I : AImpl) : BkImpl I where
  build := fun w hI hv ha hm hE hn hn6 hF hc hcm h0 h1 => buildB_any I w hI hv ha hm hE hn hn6 hF hc hcm
  list := fun w hI hT hw h0 h1 => listB_any I w hI hT hw h0 h1
  range := fun {p A rd F i t l} lo hi lim w hI hT h0 h1 _ _ _ => (rangeB_any I lo hi lim w hI hT h0 (by omega)).mono fun e w' h => h.more (by unfold bulkBd; omega)
  keep := fun lo hi w hI hv hm hT hw h0 h1 hl hh => keepB_any I lo hi w hI hv hm hT hw h0 h1 hl hh
  drop := fun lo hi w hI hv hm hT hw h0 h1 hl hh => dropB_any I lo hi w hI hv hm hT hw h0 h1 hl hh
end Go.Proofs.YtnimbgcploohiaaGreat
