/- What is asked of the program's ranks, stated, not proved here; the example of the chapter. -/
import Derived.Test.YtcdfgnbdbmmcpaaScene
import Derived.Test.YtcdfgnbdbmmcpaaRefSub
set_option linter.unusedVariables false
set_option linter.unusedSimpArgs false
namespace Go.Proofs.Ytcdfgnbdbmmcpaa
open Go.RowKit
/-- how often may be read -/
def mostJ (n : Nat) : Int := 6 * ((xh n : Int) + 2)
theorem mostJ_le {n : Nat} (h : n ≤ 2147483647) : mostJ n ≤ 492 ∧ 0 ≤ mostJ n := by
  have h1 := (xh_spec h).2.1
  unfold mostJ
  omega
def cntE (l : List En) (lo hi : Int) : Nat := (betE l lo hi).length
theorem cntE_le (l : List En) (lo hi : Int) : cntE l lo hi ≤ l.length := List.length_filter_le _ _
def midE (l : List En) : Option En := selE l ((((l.length + 1) / 2 : Nat) : Int) - 1)
structure RkImpl (I : AImpl) : Prop where
  rank : ∀ {p : Value} {A : Ar} {rd : Int} {F : Nat → Prop} {i : Nat} {t : Tr} {l : List En} (k : Int) (w : World), I.Is w p A rd F → TreeAt A i t l → 0 ≤ rd → rd ≤ 1099511627776 → i64R k →
    Calls Try.prog 12 #[p, .int .u32 (i : Int), .int .i64 k] w (ReadsTo I p A rd F (mostJ l.length) (.int .i64 (rankE l k : Int)) w)
  select : ∀ {p : Value} {A : Ar} {rd : Int} {F : Nat → Prop} {i : Nat} {t : Tr} {l : List En} (j : Int) (w : World), I.Is w p A rd F → TreeAt A i t l → 0 ≤ rd → rd ≤ 1099511627776 → i64R j →
    Calls Try.prog 15 #[p, .int .u32 (i : Int), .int .i64 j] w (ReadsTo I p A rd F (mostJ l.length) (enR (selE l j)) w)
  count : ∀ {p : Value} {A : Ar} {rd : Int} {F : Nat → Prop} {i : Nat} {t : Tr} {l : List En} (lo hi : Int) (w : World), I.Is w p A rd F → TreeAt A i t l → 0 ≤ rd → rd ≤ 1099511627776 → i64R lo → i64R hi →
    Calls Try.prog 17 #[p, .int .u32 (i : Int), .int .i64 lo, .int .i64 hi] w (ReadsTo I p A rd F (2 * mostJ l.length) (.int .i64 (cntE l lo hi : Int)) w)
  median : ∀ {p : Value} {A : Ar} {rd : Int} {F : Nat → Prop} {i : Nat} {t : Tr} {l : List En} (w : World), I.Is w p A rd F → TreeAt A i t l → 0 ≤ rd → rd ≤ 1099511627776 →
    Calls Try.prog 20 #[p, .int .u32 (i : Int)] w (ReadsTo I p A rd F (mostJ l.length) (enR (midE l)) w)
def l10 : List En := [⟨1, 0⟩, ⟨4, 0⟩, ⟨9, 0⟩]
theorem l10_up : Up l10 := by unfold Up l10; simp
set_option maxHeartbeats 2000000 in
set_option maxRecDepth 100000 in
theorem awake10_any (I : AImpl) (K : RkImpl I) (w : World) : Calls Try.prog 8 #[] w (Calm w (.bool true)) := by
  have HK := Lib.hid K
  have hat := at3 w 41 ⟨1, 0⟩ ⟨4, 0⟩ ⟨9, 0⟩ ⟨⟨by decide, by decide⟩, ⟨by decide, by decide⟩⟩ ⟨⟨by decide, by decide⟩, ⟨by decide, by decide⟩⟩ ⟨⟨by decide, by decide⟩, ⟨by decide, by decide⟩⟩
  have hb := below_new7 w (.cells #[.int .i64 1, .int .i64 0, .int .i64 4, .int .i64 0, .int .i64 9, .int .i64 0] 41)
  have HAT := Lib.hid hat
  have HB := Lib.hid hb
  have S2 : Hid (selE l10 2 = some ⟨9, 0⟩) := by show _ = _; rfl
  have R5 : Hid (rankE l10 5 = 2) := by show _ = _; rfl
  have C9 : Hid (cntE l10 2 9 = 2) := by show _ = _; rfl
  have R : Hid (i64R 2 ∧ i64R 5 ∧ i64R 9) := ⟨⟨by decide, by decide⟩, ⟨by decide, by decide⟩, ⟨by decide, by decide⟩⟩
  have M3 : Hid (mostJ l10.length ≤ 492) := (mostJ_le (by decide)).1
  clear K hat hb
  go_enter Try.func8, Try.ntmps8
  go_wp2_with fail
  generalize w.alloc (.cells #[.int .i64 1, .int .i64 0, .int .i64 4, .int .i64 0, .int .i64 9, .int .i64 0] 41) = w1 at HAT HB ⊢
  refine (grow_any I (l := l10) (n := 3) (c := 3) (sp := 1) (m := 4) HAT.out rfl (by decide) (by decide) rfl (by decide) (by decide) (by decide) (by decide)).mono ?_
  rintro e w2 ⟨p, A, i, t, F, rfl, hg⟩
  obtain ⟨pa, rfl⟩ := I.ptr hg.is
  have HT := Lib.hid (hg.planted.tree l10_up)
  have HM2 : Hid (MR I w.heap.size w w2 (.pointer (some pa)) A 0 (fun _ => False)) := ⟨⟨F, hg.is, fun k hk => Nat.le_trans HB.out.size (hg.foot k hk), fun k hk => hk.elim⟩, HB.out.trans (hg.below.mono HB.out.size), Nat.le_trans HB.out.size hg.below.size⟩
  clear hg
  go_wp2_with fail
  refine (mr_call HM2.out fun F hI => HK.out.select 2 w2 hI HT.out (by decide) (by decide) R.out.1).mono ?_
  rintro e w3 ⟨rfl, rd3, hm3, -, h30, h31⟩
  rw [S2.out]
  have HM3 := Lib.hid hm3
  have HR3 : Hid (0 ≤ rd3 ∧ rd3 ≤ 1000) := ⟨h30, by have := M3.out; omega⟩
  clear hm3 h30 h31
  unfold enR enA
  go_upto_region 5 with fail
  have hm5 := HM3.out.alloc (.cells #[.int .i64 9, .int .i64 0] 41)
  have hg5 := heap_alloc_new w3 (.cells #[.int .i64 9, .int .i64 0] 41)
  generalize w3.alloc (.cells #[.int .i64 9, .int .i64 0] 41) = w5 at hm5 hg5 ⊢
  generalize w3.heap.size = g at hm5 hg5 ⊢
  have HM5 := Lib.hid hm5
  have HG5 := Lib.hid hg5
  clear hm5 hg5 HM3
  go_wp2_with fail
  refine (mr_call HM5.out fun F hI => HK.out.rank 5 w5 hI HT.out HR3.out.1 (by have := HR3.out; omega) R.out.2.1).mono ?_
  rintro e w6 ⟨rfl, rd6, hm6, hk6, h60, h61⟩
  rw [R5.out]
  have hg6 := (hk6 g (.inr rfl)).trans HG5.out
  have HM6 := Lib.hid hm6
  have HR6 : Hid (0 ≤ rd6 ∧ rd6 ≤ 2000) := ⟨by have := HR3.out; omega, by have := M3.out; have := HR3.out; omega⟩
  obtain ⟨x0, x1⟩ := two_ofE hg6
  clear hm6 hk6 hg6 h60 h61 HM5 HG5
  go_wp2_with fail
  refine (mr_call HM6.out fun F hI => HK.out.count 2 9 w6 hI HT.out HR6.out.1 (by have := HR6.out; omega) R.out.1 R.out.2.2).mono ?_
  rintro e w7 ⟨rfl, rd7, hm7, hk7, h70, h71⟩
  rw [C9.out]
  have HB7 := Lib.hid hm7.below
  clear hm7 hk7 h70 h71 HM6 x0 x1
  go_wp2_with fail
  go_ret
  exact ⟨rfl, HB7.out⟩
/-! ### counts, plain -/
theorem cnt_cons (x : En) (t : List En) (lo hi : Int) : cntE (x :: t) lo hi = cntE t lo hi + (if lo ≤ x.key ∧ x.key ≤ hi then 1 else 0) := by
  unfold cntE betE
  rw [List.filter_cons]
  by_cases h : lo ≤ x.key ∧ x.key ≤ hi
  · simp [h]
  · simp [h]
theorem rk_cons (x : En) (t : List En) (k : Int) : rankE (x :: t) k = rankE t k + (if x.key < k then 1 else 0) := by
  unfold rankE
  rw [List.countP_cons]
  by_cases h : x.key < k <;> simp [h]
theorem cnt_add : ∀ (l : List En) {lo mid hi : Int}, lo ≤ mid → mid < hi → cntE l lo mid + cntE l (mid + 1) hi = cntE l lo hi
  | [], _, _, _, _, _ => rfl
  | x :: t, lo, mid, hi, h1, h2 => by
    have ih := cnt_add t h1 h2
    rw [cnt_cons, cnt_cons, cnt_cons]
    by_cases a1 : lo ≤ x.key ∧ x.key ≤ mid
    · rw [if_pos a1, if_neg (by omega), if_pos (by omega)]; omega
    · by_cases a2 : mid + 1 ≤ x.key ∧ x.key ≤ hi
      · rw [if_neg a1, if_pos a2, if_pos (by omega)]; omega
      · rw [if_neg a1, if_neg a2, if_neg (by omega)]; omega
theorem cnt_rank : ∀ (l : List En) {lo mid : Int}, lo ≤ mid → cntE l lo mid + rankE l lo = rankE l (mid + 1)
  | [], _, _, _ => rfl
  | x :: t, lo, mid, h1 => by
    have ih := cnt_rank t h1
    rw [cnt_cons, rk_cons, rk_cons]
    by_cases a1 : x.key < lo
    · rw [if_neg (by omega), if_pos a1, if_pos (by omega)]; omega
    · by_cases a2 : x.key < mid + 1
      · rw [if_pos (by omega), if_neg a1, if_pos a2]; omega
      · rw [if_neg (by omega), if_neg a1, if_neg a2]; omega
theorem cnt_all : ∀ {l : List En} {lo hi : Int}, (∀ e ∈ l, lo ≤ e.key ∧ e.key ≤ hi) → cntE l lo hi = l.length
  | [], _, _, _ => rfl
  | x :: t, lo, hi, h => by
    rw [cnt_cons, cnt_all (fun e he => h e (by simp [he])), if_pos (h x (by simp))]; rfl
theorem cnt_none (l : List En) {lo hi : Int} (h : hi < lo) : cntE l lo hi = 0 := by
  unfold cntE betE
  rw [List.length_eq_zero_iff, List.filter_eq_nil_iff]
  intro e _
  simp
  omega
end Go.Proofs.Ytcdfgnbdbmmcpaa
