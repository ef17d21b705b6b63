/- The program's ranks keep their contracts. -/
import Derived.Test.YtbjmblfifnjafaaRkOk1
set_option linter.unusedVariables false
set_option linter.unusedSimpArgs false
namespace Go.Proofs.Ytbjmblfifnjafaa
open Go.RowKit
theorem cnt_ranks (l : List En) {lo hi : Int} (h : lo ≤ hi) : (rankE l (hi + 1) : Int) - (rankE l lo : Int) = (cntE l lo hi : Int) := by
  have := cnt_rank l h
  omega
set_option maxRecDepth 100000 in
theorem countP_any (I : AImpl) {p : Value} {A : Ar} {rd : Int} {F : Nat → Prop} {i : Nat} {t : Tr} {l : List En} (lo hi : Int) (w : World) (hI : I.Is w p A rd F) (hT : TreeAt A i t l) (h0 : 0 ≤ rd) (h1 : rd ≤ 1099511627776) (hlo : i64R lo) (hhi : i64R hi) :
    Calls Try.prog 25 #[p, .int .u32 (i : Int), .int .i64 lo, .int .i64 hi] w (ReadsTo I p A rd F (2 * mostJ l.length) (.int .i64 (cntE l lo hi : Int)) w) := by
  obtain ⟨pa, rfl⟩ := I.ptr hI
  have hM := mostJ_le (n := l.length) (by have := hT.len; omega)
  rcases Int.lt_or_le hi lo with hlt | hlt
  · have q1 : decide (lo > hi) = true := decide_eq_true hlt
    have q2 : decide (hi < lo) = true := decide_eq_true hlt
    have HE : Hid (∀ w', Below w.heap.size w w' → ReadsTo I (.pointer (some pa)) A rd F (2 * mostJ l.length) (.int .i64 (cntE l lo hi : Int)) w (.returned (.int .i64 0)) w') := fun w' hb => by
      rw [cnt_none l hlt]
      exact ((In.start hI).calm hb).ends (Int.le_refl _) (by omega)
    clear hI hT h0 h1 hlo hhi hM
    go_enter Try.func25, Try.ntmps25
    go_wp2_with fail
    go_ret
    exact HE.out w (Below.refl _ _)
  · have q1 : decide (lo > hi) = false := decide_eq_false (by omega)
    have q2 : decide (hi < lo) = false := decide_eq_false (by omega)
    have HC1 : Hid (∀ wx F1, I.Is wx (.pointer (some pa)) A rd F1 → Calls Try.prog 42 #[.pointer (some pa), .int .u32 (i : Int), .int .i64 hi, .bool true] wx (ReadsTo I (.pointer (some pa)) A rd F1 (mostJ l.length) (.int .i64 (rankE l (hi + 1) : Int)) wx)) := fun wx F1 hI1 => countB_any I hi true wx hI1 hT h0 (by omega)
    have HC2 : Hid (∀ rd1 wx F1, rd ≤ rd1 → rd1 ≤ rd + mostJ l.length → I.Is wx (.pointer (some pa)) A rd1 F1 → Calls Try.prog 42 #[.pointer (some pa), .int .u32 (i : Int), .int .i64 lo, .bool false] wx (ReadsTo I (.pointer (some pa)) A rd1 F1 (mostJ l.length) (.int .i64 (rankE l lo : Int)) wx)) := fun rd1 wx F1 h2 h3 hI1 => by
      have := countB_any I lo false wx hI1 hT (by omega) (by omega)
      rwa [show lo + (if false = true then 1 else 0) = lo from by simp] at this
    have hv := cnt_ranks l hlt
    have h8 := rankE_le l (hi + 1)
    have h9 := rankE_le l lo
    have hL := hT.len
    generalize rankE l (hi + 1) = R1 at HC1 hv h8
    generalize rankE l lo = R2 at HC2 hv h9
    generalize cntE l lo hi = V at hv ⊢
    have hwr : IntKind.i64.wrap ((R1 : Int) - (R2 : Int)) = (V : Int) := by rw [IntKind.wrap_i64]; omega
    have HIN := Lib.hid (In.start hI)
    generalize hm : mostJ l.length = M at HC1 HC2 hM ⊢
    clear hI hT h0 h1 hlo hhi hv h8 h9 hL hlt hm hM
    go_enter Try.func25, Try.ntmps25
    go_wp2_with fail
    refine (HIN.out.call fun F1 hI1 => HC1.out w F1 hI1).mono ?_
    rintro e w1 ⟨rfl, rd1, hin1, -, h10, h11⟩
    have HIN1 := Lib.hid hin1
    have HR1 : Hid (rd ≤ rd1 ∧ rd1 ≤ rd + M) := ⟨h10, h11⟩
    clear hin1 h10 h11 HIN HC1
    go_wp2_with fail
    refine (HIN1.out.call fun F1 hI1 => HC2.out rd1 w1 F1 HR1.out.1 HR1.out.2 hI1).mono ?_
    rintro e w2 ⟨rfl, rd2, hin2, -, h20, h21⟩
    have HE : Hid (ReadsTo I (.pointer (some pa)) A rd F (2 * M) (.int .i64 (V : Int)) w (.returned (.int .i64 (V : Int))) w2) := hin2.ends (by have := HR1.out; omega) (by have := HR1.out; omega)
    clear hin2 h20 h21 HIN1 HC2
    go_wp2_with fail
    go_ret
    exact HE.out
/-- the way of Select: the result's box is r -/
def WayS (I : AImpl) (w : World) (F : Nat → Prop) (p : Value) (A : Ar) (rd0 : Int) (R : Option En) (top : Int) (r U : Nat) (jv x c : Value) (wr : World) : Prop :=
  ∃ (i n : Nat) (j : Int) (u : Tr) (rd : Int), jv = .int .i64 j ∧ x = .int .u32 (i : Int) ∧ c = .int .i64 (n : Int) ∧ i64R j ∧ Sub A i u ∧ selE (u.ents A.nd) j = R ∧ rd0 ≤ rd ∧ rd + 2 * (u.ht : Int) ≤ top ∧ n + u.size ≤ U ∧ In I w F p A rd (fun k => k = r) wr ∧ wr.heap[r]? = some (.cells #[.int .i64 0, .int .i64 0] 49 (0, 0))
theorem mid_sel {l : List En} : selE l (((l.length : Int) - 1).tdiv 2) = midE l := by
  unfold midE
  rcases Nat.eq_zero_or_pos l.length with h | h
  · rw [List.length_eq_zero_iff] at h
    subst h
    rfl
  · rw [Int.tdiv_eq_ediv_of_nonneg (by omega)]
    congr 1
    omega
theorem ReadsTo.wide {I : AImpl} {p : Value} {A : Ar} {rd bd bd2 : Int} {F : Nat → Prop} {v : Value} {w : World} {e : Ending} {w' : World} (h : ReadsTo I p A rd F bd v w e w') (hb : bd ≤ bd2) : ReadsTo I p A rd F bd2 v w e w' := by
  obtain ⟨F', rd', h1, h2, h3, h4, h5⟩ := h
  exact ⟨F', rd', h1, h2, h3, h4, by omega⟩
theorem TreeAt.most {A : Ar} {i : Nat} {t : Tr} {l : List En} (hT : TreeAt A i t l) : 2 * (t.ht : Int) ≤ mostJ l.length := by
  unfold mostJ
  have h7 := hT.len
  have h8 := hT.ht (by omega)
  omega
theorem rkImpl (I : AImpl) : RkImpl I where
  count := fun lo hi w hI hT h0 h1 hlo hhi => countP_any I lo hi w hI hT h0 h1 hlo hhi
end Go.Proofs.Ytbjmblfifnjafaa
