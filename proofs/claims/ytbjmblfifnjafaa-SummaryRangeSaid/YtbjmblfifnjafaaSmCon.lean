/- What is asked of the program's summaries, stated, not proved here; the example of the chapter. -/
import Derived.Test.YtbjmblfifnjafaaRkCon
import Derived.Test.YtbjmblfifnjafaaRefSum
set_option linter.unusedVariables false
set_option linter.unusedSimpArgs false
namespace Go.Proofs.Ytbjmblfifnjafaa
open Go.RowKit
structure SmFn : Prop where
  of : ∀ {a : Option Addr} {n c : Nat} {l : List En} (w : World), EnsAt w a l → l.length = n → n ≤ 1000000 →
    Calls Try.prog 10 #[.slice a n c] w (Calm w (.agg (smA (sumE l))))
  add : ∀ (x y : Sm) (w : World), x.wf → y.wf →
    Calls Try.prog 12 #[.agg (smA x), .agg (smA y)] w (Calm w (.agg (smA (addS x y))))
  any : True
structure SmImpl (I : AImpl) : Prop where
  range : ∀ {p : Value} {A : Ar} {rd : Int} {F : Nat → Prop} {i : Nat} {t : Tr} {l : List En} (lo hi : Int) (w : World), I.Is w p A rd F → TreeAt A i t l → 0 ≤ rd → rd ≤ 1099511627776 → i64R lo → i64R hi → (∀ e ∈ l, i64R e.val) →
    Calls Try.prog 19 #[p, .int .u32 (i : Int), .int .i64 lo, .int .i64 hi] w (ReadsTo I p A rd F (2 * mostJ l.length) (.agg (smA (sumE (betE l lo hi)))) w)
  pre : ∀ {p : Value} {A : Ar} {rd : Int} {F : Nat → Prop} {i : Nat} {t : Tr} {l : List En} (j : Int) (w : World), I.Is w p A rd F → TreeAt A i t l → 0 ≤ rd → rd ≤ 1099511627776 → i64R j → (∀ e ∈ l, i64R e.val) →
    Calls Try.prog 23 #[p, .int .u32 (i : Int), .int .i64 j] w (ReadsTo I p A rd F (mostJ l.length) (.agg (smA (sumE (l.take j.toNat)))) w)
  any : True
theorem smA_at (x : Sm) : smA x = #[.int .i64 x.n, .int .i64 x.s, .int .i64 x.mn, .int .i64 x.mx] := rfl
/-! ### parts of an ascending list -/
theorem bet_add {l : List En} (h : Up l) {lo mid hi : Int} (h1 : lo ≤ mid) (h2 : mid < hi) : betE l lo mid ++ betE l (mid + 1) hi = betE l lo hi := by
  induction l with
  | nil => rfl
  | cons x t ih =>
    have hx := (List.pairwise_cons.1 h).1
    have ih := ih (List.pairwise_cons.1 h).2
    unfold betE at ih ⊢
    simp only [List.filter_cons]
    by_cases a1 : lo ≤ x.key ∧ x.key ≤ mid
    · rw [if_pos (by simpa using a1), if_neg (by simp; omega), if_pos (by simp; omega), List.cons_append, ih]
    · by_cases a2 : mid + 1 ≤ x.key ∧ x.key ≤ hi
      · rw [if_neg (by simpa using a1), if_pos (by simpa using a2), if_pos (by simp; omega), ← ih]
        have hn : t.filter (fun e => decide (lo ≤ e.key ∧ e.key ≤ mid)) = [] := by
          rw [List.filter_eq_nil_iff]
          intro e he
          have := hx e he
          simp
          omega
        rw [hn]
        rfl
      · rw [if_neg (by simpa using a1), if_neg (by simpa using a2), if_neg (by simp; omega), ih]
theorem bet_none (l : List En) {lo hi : Int} (h : hi < lo) : betE l lo hi = [] := List.eq_nil_of_length_eq_zero (cnt_none l h)
theorem bet_mem {l : List En} {lo hi : Int} {e : En} (h : e ∈ betE l lo hi) : e ∈ l := (List.mem_filter.1 h).1
theorem bet_len (l : List En) (lo hi : Int) : (betE l lo hi).length ≤ l.length := cntE_le l lo hi
def l11 : List En := [⟨1, 10⟩, ⟨4, -3⟩, ⟨9, 5⟩]
theorem l11_up : Up l11 := by unfold Up l11; simp
set_option maxHeartbeats 2000000 in
set_option maxRecDepth 100000 in
theorem awake11_any (I : AImpl) (K : SmImpl I) (w : World) : Calls Try.prog 9 #[] w (Calm w (.bool true)) := by
  have HK := Lib.hid K
  have hat := at3 w 49 ⟨1, 10⟩ ⟨4, -3⟩ ⟨9, 5⟩ ⟨⟨by decide, by decide⟩, ⟨by decide, by decide⟩⟩ ⟨⟨by decide, by decide⟩, ⟨by decide, by decide⟩⟩ ⟨⟨by decide, by decide⟩, ⟨by decide, by decide⟩⟩
  have hb := below_new7 w (.cells #[.int .i64 1, .int .i64 10, .int .i64 4, .int .i64 (-3), .int .i64 9, .int .i64 5] 49)
  have HAT := Lib.hid hat
  have HB := Lib.hid hb
  have S2 : Hid (smA (sumE (betE l11 2 9)) = #[.int .i64 2, .int .i64 2, .int .i64 (-3), .int .i64 5]) := by show _ = _; kernel_rfl
  have S1 : Hid (smA (sumE (l11.take (1 : Int).toNat)) = #[.int .i64 1, .int .i64 10, .int .i64 10, .int .i64 10]) := by show _ = _; kernel_rfl
  have R : Hid (i64R 2 ∧ i64R 9 ∧ i64R 1) := ⟨⟨by decide, by decide⟩, ⟨by decide, by decide⟩, ⟨by decide, by decide⟩⟩
  have RV : Hid (∀ e ∈ l11, i64R e.val) := by
    show ∀ e ∈ l11, i64R e.val
    intro e he
    simp [l11] at he
    rcases he with rfl | rfl | rfl <;> exact ⟨by decide, by decide⟩
  have M3 : Hid (mostJ l11.length ≤ 492 ∧ 0 ≤ mostJ l11.length) := mostJ_le (by decide)
  clear K hat hb
  go_enter Try.func9, Try.ntmps9
  go_wp2_with fail
  generalize w.alloc (.cells #[.int .i64 1, .int .i64 10, .int .i64 4, .int .i64 (-3), .int .i64 9, .int .i64 5] 49) = w1 at HAT HB ⊢
  refine (grow_any I (l := l11) (n := 3) (c := 3) (sp := 1) (m := 4) HAT.out rfl (by decide) (by decide) rfl (by decide) (by decide) (by decide) (by decide)).mono ?_
  rintro e w2 ⟨p, A, i, t, F, rfl, hg⟩
  obtain ⟨pa, rfl⟩ := I.ptr hg.is
  have HT := Lib.hid (hg.planted.tree l11_up)
  have HM2 : Hid (MR I w.heap.size w w2 (.pointer (some pa)) A 0 (fun _ => False)) := ⟨⟨F, hg.is, fun k hk => Nat.le_trans HB.out.size (hg.foot k hk), fun k hk => hk.elim⟩, HB.out.trans (hg.below.mono HB.out.size), Nat.le_trans HB.out.size hg.below.size⟩
  clear hg
  go_wp2_with fail
  refine (mr_call HM2.out fun F hI => HK.out.range 2 9 w2 hI HT.out (by decide) (by decide) R.out.1 R.out.2.1 RV.out).mono ?_
  rintro e w3 ⟨rfl, rd3, hm3, -, h30, h31⟩
  rw [S2.out]
  have HM3 := Lib.hid hm3
  have HR3 : Hid (0 ≤ rd3 ∧ rd3 ≤ 1000) := ⟨h30, by have := M3.out; omega⟩
  clear hm3 h30 h31
  go_wp2_with fail
  refine (mr_call HM3.out fun F hI => HK.out.pre 1 w3 hI HT.out HR3.out.1 (by have := HR3.out; omega) R.out.2.2 RV.out).mono ?_
  rintro e w4 ⟨rfl, rd4, hm4, -, h40, h41⟩
  rw [S1.out]
  have HB4 := Lib.hid hm4.below
  clear hm4 h40 h41
  go_wp2_with fail
  go_ret
  exact ⟨rfl, HB4.out⟩
end Go.Proofs.Ytbjmblfifnjafaa
