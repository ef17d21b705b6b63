/- Summaries of lists: plain, and the reference's Summarize. -/
import Derived.Test.YtbjmblfifnjafaaRefSub
import Derived.Test.YtbjmblfifnjafaaSlotsAid
import Derived.Deep.DeepCutAuto
import Derived.Laws.CopyOwn
set_option linter.unusedVariables false
set_option linter.unusedSimpArgs false
namespace Go.Proofs.Ytbjmblfifnjafaa
open Go.RowKit
structure Sm where
  n : Int
  s : Int
  mn : Int
  mx : Int
def smA (x : Sm) : Array Value := #[.int .i64 x.n, .int .i64 x.s, .int .i64 x.mn, .int .i64 x.mx]
def Sm.z : Sm := ⟨0, 0, 0, 0⟩
/-- numbers of the type -/
def Sm.wf (x : Sm) : Prop := i64R x.n ∧ i64R x.s ∧ i64R x.mn ∧ i64R x.mx
def sumV (l : List En) : Int := wrap64 ((l.map (·.val)).sum)
def mnV : List En → Int
  | [] => 0
  | x :: t => t.foldl (fun m e => if e.val < m then e.val else m) x.val
def mxV : List En → Int
  | [] => 0
  | x :: t => t.foldl (fun m e => if m < e.val then e.val else m) x.val
def sumE (l : List En) : Sm := ⟨l.length, sumV l, mnV l, mxV l⟩
def addS (x y : Sm) : Sm := if x.n = 0 then y else if y.n = 0 then x else ⟨wrap64 (x.n + y.n), wrap64 (x.s + y.s), min x.mn y.mn, max x.mx y.mx⟩
theorem wrap64_in (x : Int) : i64R (wrap64 x) := by unfold i64R wrap64; omega
theorem wrap64_add (x y : Int) : wrap64 (wrap64 x + wrap64 y) = wrap64 (x + y) := by unfold wrap64; omega
theorem wrap64_add1 (x y : Int) : wrap64 (wrap64 x + y) = wrap64 (x + y) := by unfold wrap64; omega
theorem sumV_app (a b : List En) : sumV (a ++ b) = wrap64 (sumV a + sumV b) := by
  unfold sumV
  rw [wrap64_add, List.map_append, List.sum_append]
theorem sumV_snoc (a : List En) (e : En) : sumV (a ++ [e]) = wrap64 (sumV a + e.val) := by
  unfold sumV
  rw [wrap64_add1, List.map_append, List.sum_append]
  simp
theorem mnV_snoc (l : List En) (e : En) : mnV (l ++ [e]) = if l = [] ∨ e.val < mnV l then e.val else mnV l := by
  cases l with
  | nil => simp [mnV]
  | cons x t => simp [mnV, List.foldl_append]
theorem mxV_snoc (l : List En) (e : En) : mxV (l ++ [e]) = if l = [] ∨ mxV l < e.val then e.val else mxV l := by
  cases l with
  | nil => simp [mxV]
  | cons x t => simp [mxV, List.foldl_append]
theorem mn_foldl (t : List En) : ∀ m : Int, (t.foldl (fun m e => if e.val < m then e.val else m) m ≤ m ∧ ∀ e ∈ t, t.foldl (fun m e => if e.val < m then e.val else m) m ≤ e.val) ∧ (t.foldl (fun m e => if e.val < m then e.val else m) m = m ∨ ∃ e ∈ t, e.val = t.foldl (fun m e => if e.val < m then e.val else m) m) := by
  induction t with
  | nil => intro m; exact ⟨⟨Int.le_refl _, fun e he => by cases he⟩, .inl rfl⟩
  | cons x t ih =>
    intro m
    rw [List.foldl_cons]
    obtain ⟨⟨h1, h2⟩, h3⟩ := ih (if x.val < m then x.val else m)
    generalize List.foldl (fun m e => if e.val < m then e.val else m) (if x.val < m then x.val else m) t = r at h1 h2 h3 ⊢
    refine ⟨⟨?_, fun e he => ?_⟩, ?_⟩
    · split at h1 <;> omega
    · rcases List.mem_cons.1 he with rfl | he
      · split at h1 <;> omega
      · exact h2 e he
    · rcases h3 with h3 | ⟨e, he, h3⟩
      · split at h3
        · exact .inr ⟨x, by simp, h3.symm⟩
        · exact .inl h3
      · exact .inr ⟨e, by simp [he], h3⟩
theorem mx_foldl (t : List En) : ∀ m : Int, (m ≤ t.foldl (fun m e => if m < e.val then e.val else m) m ∧ ∀ e ∈ t, e.val ≤ t.foldl (fun m e => if m < e.val then e.val else m) m) ∧ (t.foldl (fun m e => if m < e.val then e.val else m) m = m ∨ ∃ e ∈ t, e.val = t.foldl (fun m e => if m < e.val then e.val else m) m) := by
  induction t with
  | nil => intro m; exact ⟨⟨Int.le_refl _, fun e he => by cases he⟩, .inl rfl⟩
  | cons x t ih =>
    intro m
    rw [List.foldl_cons]
    obtain ⟨⟨h1, h2⟩, h3⟩ := ih (if m < x.val then x.val else m)
    generalize List.foldl (fun m e => if m < e.val then e.val else m) (if m < x.val then x.val else m) t = r at h1 h2 h3 ⊢
    refine ⟨⟨?_, fun e he => ?_⟩, ?_⟩
    · split at h1 <;> omega
    · rcases List.mem_cons.1 he with rfl | he
      · split at h1 <;> omega
      · exact h2 e he
    · rcases h3 with h3 | ⟨e, he, h3⟩
      · split at h3
        · exact .inr ⟨x, by simp, h3.symm⟩
        · exact .inl h3
      · exact .inr ⟨e, by simp [he], h3⟩
theorem mnV_spec {l : List En} (h : l ≠ []) : (∀ e ∈ l, mnV l ≤ e.val) ∧ ∃ e ∈ l, e.val = mnV l := by
  cases l with
  | nil => exact absurd rfl h
  | cons x t =>
    obtain ⟨⟨h1, h2⟩, h3⟩ := mn_foldl t x.val
    refine ⟨fun e he => ?_, ?_⟩
    · rcases List.mem_cons.1 he with rfl | he
      · exact h1
      · exact h2 e he
    · rcases h3 with h3 | ⟨e, he, h3⟩
      · exact ⟨x, by simp, h3.symm⟩
      · exact ⟨e, by simp [he], h3⟩
theorem mxV_spec {l : List En} (h : l ≠ []) : (∀ e ∈ l, e.val ≤ mxV l) ∧ ∃ e ∈ l, e.val = mxV l := by
  cases l with
  | nil => exact absurd rfl h
  | cons x t =>
    obtain ⟨⟨h1, h2⟩, h3⟩ := mx_foldl t x.val
    refine ⟨fun e he => ?_, ?_⟩
    · rcases List.mem_cons.1 he with rfl | he
      · exact h1
      · exact h2 e he
    · rcases h3 with h3 | ⟨e, he, h3⟩
      · exact ⟨x, by simp, h3.symm⟩
      · exact ⟨e, by simp [he], h3⟩
theorem mnV_app {a b : List En} (ha : a ≠ []) (hb : b ≠ []) : mnV (a ++ b) = min (mnV a) (mnV b) := by
  obtain ⟨h1, x, hx, h2⟩ := mnV_spec ha
  obtain ⟨h3, y, hy, h4⟩ := mnV_spec hb
  obtain ⟨h5, z, hz, h6⟩ := mnV_spec (l := a ++ b) (by simp [ha])
  have e1 := h5 x (by simp [hx])
  have e2 := h5 y (by simp [hy])
  rcases List.mem_append.1 hz with hz | hz
  · have := h1 z hz; omega
  · have := h3 z hz; omega
theorem mxV_app {a b : List En} (ha : a ≠ []) (hb : b ≠ []) : mxV (a ++ b) = max (mxV a) (mxV b) := by
  obtain ⟨h1, x, hx, h2⟩ := mxV_spec ha
  obtain ⟨h3, y, hy, h4⟩ := mxV_spec hb
  obtain ⟨h5, z, hz, h6⟩ := mxV_spec (l := a ++ b) (by simp [ha])
  have e1 := h5 x (by simp [hx])
  have e2 := h5 y (by simp [hy])
  rcases List.mem_append.1 hz with hz | hz
  · have := h1 z hz; omega
  · have := h3 z hz; omega
theorem sum_app (a b : List En) (h : a.length + b.length ≤ 2147483647) : addS (sumE a) (sumE b) = sumE (a ++ b) := by
  unfold addS
  cases a with
  | nil => rfl
  | cons x t =>
    rw [if_neg (by show ¬ (((x :: t).length : Nat) : Int) = 0; simp only [List.length_cons]; omega)]
    cases b with
    | nil => rw [List.append_nil]; rfl
    | cons y u =>
      rw [if_neg (by show ¬ (((y :: u).length : Nat) : Int) = 0; simp only [List.length_cons]; omega)]
      unfold sumE
      rw [sumV_app, mnV_app (by simp) (by simp), mxV_app (by simp) (by simp), List.length_append]
      congr 1
      unfold wrap64
      simp only [List.length_cons] at h ⊢
      omega
theorem addS_comm {x y : Sm} (h : x.n = 0 → y.n = 0 → x = y) : addS x y = addS y x := by
  unfold addS
  by_cases h1 : x.n = 0
  · by_cases h2 : y.n = 0
    · rw [if_pos h1, if_pos h2, h h1 h2]
    · rw [if_pos h1, if_neg h2, if_pos h1]
  · by_cases h2 : y.n = 0
    · rw [if_neg h1, if_pos h2, if_pos h2]
    · rw [if_neg h1, if_neg h2, if_neg h2, if_neg h1, Int.add_comm, Int.add_comm x.s, Int.min_comm, Int.max_comm]
theorem sum_swap (a b : List En) (h : a.length + b.length ≤ 2147483647) : addS (sumE b) (sumE a) = sumE (a ++ b) := by
  rw [← sum_app a b h]
  refine addS_comm fun h1 h2 => ?_
  have h1' : ((b.length : Nat) : Int) = 0 := h1
  have h2' : ((a.length : Nat) : Int) = 0 := h2
  rw [List.eq_nil_of_length_eq_zero (l := b) (by omega), List.eq_nil_of_length_eq_zero (l := a) (by omega)]
theorem addS_zl (x : Sm) : addS .z x = x := rfl
theorem addS_zr (x : Sm) (h : x.n ≠ 0) : addS x .z = x := by unfold addS; rw [if_neg h]; rfl
theorem sumE_wf {l : List En} (h : ∀ e ∈ l, i64R e.val) (hl : l.length ≤ 2147483647) : (sumE l).wf := by
  refine ⟨⟨by show _ ≤ ((l.length : Nat) : Int); omega, by show ((l.length : Nat) : Int) ≤ _; omega⟩, wrap64_in _, ?_, ?_⟩
  · cases l with
    | nil => exact ⟨by decide, by decide⟩
    | cons x t => obtain ⟨e, he, h1⟩ := (mnV_spec (l := x :: t) (by simp)).2; show i64R (mnV (x :: t)); rw [← h1]; exact h e he
  · cases l with
    | nil => exact ⟨by decide, by decide⟩
    | cons x t => obtain ⟨e, he, h1⟩ := (mxV_spec (l := x :: t) (by simp)).2; show i64R (mxV (x :: t)); rw [← h1]; exact h e he
/-! ### the reference's walk -/
structure SB (w : World) (g0 g1 : Nat) (x : Sm) (wr : World) : Prop where
  b0 : wr.heap[g0]? = some (.cells (smA .z) 25 (0, 0))
  b1 : wr.heap[g1]? = some (.cells (smA x) 25 (0, 0))
  ne : g0 ≠ g1
  h0 : w.heap.size ≤ g0
  h1 : w.heap.size ≤ g1
  below : Below w.heap.size w wr
theorem SB.cell {w wr : World} {g0 g1 : Nat} {x y : Sm} (h : SB w g0 g1 x wr) (j : Nat) (v : Value) (hr : (wr.setCell ⟨g1, j, none⟩ v).heap[g1]? = some (.cells (smA y) 25 (0, 0))) : SB w g0 g1 y (wr.setCell ⟨g1, j, none⟩ v) :=
  ⟨(heap_setCell_other _ _ _ _ h.ne).trans h.b0, hr, h.ne, h.h0, h.h1, h.below.setCell h.h1 v⟩
theorem SB.set1 {w wr : World} {g0 g1 : Nat} {x : Sm} (h : SB w g0 g1 x wr) (v : Int) : SB w g0 g1 ⟨x.n, v, x.mn, x.mx⟩ (wr.setCell ⟨g1, 1, none⟩ (.int .i64 v)) := h.cell 1 _ (by rw [heap_setCell_same _ _ 1 _ _ _ h.b1]; rfl)
theorem SB.set2 {w wr : World} {g0 g1 : Nat} {x : Sm} (h : SB w g0 g1 x wr) (v : Int) : SB w g0 g1 ⟨x.n, x.s, v, x.mx⟩ (wr.setCell ⟨g1, 2, none⟩ (.int .i64 v)) := h.cell 2 _ (by rw [heap_setCell_same _ _ 2 _ _ _ h.b1]; rfl)
theorem SB.set3 {w wr : World} {g0 g1 : Nat} {x : Sm} (h : SB w g0 g1 x wr) (v : Int) : SB w g0 g1 ⟨x.n, x.s, x.mn, v⟩ (wr.setCell ⟨g1, 3, none⟩ (.int .i64 v)) := h.cell 3 _ (by rw [heap_setCell_same _ _ 3 _ _ _ h.b1]; rfl)
theorem SB.cells {w wr : World} {g0 g1 : Nat} {x : Sm} (h : SB w g0 g1 x wr) : wr.cell? ⟨g1, 0, none⟩ = some (.int .i64 x.n) ∧ wr.cell? ⟨g1, 1, none⟩ = some (.int .i64 x.s) ∧ wr.cell? ⟨g1, 2, none⟩ = some (.int .i64 x.mn) ∧ wr.cell? ⟨g1, 3, none⟩ = some (.int .i64 x.mx) := by
  refine ⟨?_, ?_, ?_, ?_⟩ <;> (rw [cell_of_row _ _ _ _ _ _ h.b1]; rfl)
theorem SB.frozen {w wr : World} {g0 g1 : Nat} {x : Sm} (h : SB w g0 g1 x wr) (j : Nat) : wr.frozen? ⟨g1, j, none⟩ = false := frozen_of_row _ _ _ _ _ h.b1
theorem smA_one (x : Sm) : (smA x).all (·.oneCell') = true := by simp [smA, Value.oneCell']
/-- the summary while it is reckoned -/
def partS (n : Nat) (l : List En) (j : Nat) : Sm := ⟨(n : Int), sumV (l.take j), mnV (l.take j), mxV (l.take j)⟩
set_option maxHeartbeats 4000000 in
set_option maxRecDepth 100000 in
theorem summarize_any {w : World} {a : Option Addr} {n c : Nat} {l : List En} (h : EnsAt w a l) (hn : l.length = n) (hl : n ≤ 1000000) :
    Calls Try.prog 11 #[.slice a n c] w (Calm w (.agg (smA (sumE l)))) := by
  have HU : Hid _ := Lib.hid Try.underlying25
  have hin : (Try.prog.info? 25).map (·.size) = some 4 := by kernel_rfl
  have HIN := Lib.hid hin
  have HE := Lib.hid h
  have HN := Lib.hid hn
  have hni : (n : Int) ≤ 1000000 := by omega
  clear h hn hl hin
  go_enter Try.func11, Try.ntmps11
  go_upto_region 1 with fail
  rw [show #[Value.int .i64 0, .int .i64 0, .int .i64 0, .int .i64 0] = smA Sm.z from rfl]
  have hb1 := below_newL w (Obj.cells (smA Sm.z) 25)
  have hr1 := heap_alloc_new w (Obj.cells (smA Sm.z) 25)
  have hz1 : Hid ((w.alloc (Obj.cells (smA Sm.z) 25)).heap.size = w.heap.size + 1) := by show _ = _; simp
  generalize w.alloc (Obj.cells (smA Sm.z) 25) = w1 at hb1 hr1 hz1 ⊢
  go_upto_region 2 with fail
  have hsb : SB w w.heap.size w1.heap.size (partS n l 0) (w1.alloc (Obj.cells #[Value.int .i64 (n : Int), .int .i64 0, .int .i64 0, .int .i64 0] 25)) := by
    have hb2 := below_newL w1 (Obj.cells #[Value.int .i64 (n : Int), .int .i64 0, .int .i64 0, .int .i64 0] 25)
    have hz := hz1.out
    refine ⟨(hb2.block _ (by omega)).trans hr1, ?_, by omega, Nat.le_refl _, by omega, hb1.trans (hb2.mono (by omega))⟩
    rw [heap_alloc_new w1]
    show some (Obj.cells #[Value.int .i64 (n : Int), .int .i64 0, .int .i64 0, .int .i64 0] _ _) = _
    unfold partS smA
    rw [List.take_zero, show sumV [] = 0 by show wrap64 0 = 0; unfold wrap64; omega]
    rfl
  generalize w1.alloc (Obj.cells #[Value.int .i64 (n : Int), .int .i64 0, .int .i64 0, .int .i64 0] 25) = w2 at hsb ⊢
  generalize w1.heap.size = g1 at hsb ⊢
  generalize hg0 : w.heap.size = g0 at hsb ⊢
  have HG0 := Lib.hid hg0
  have HSB := Lib.hid hsb
  clear hb1 hr1 hz1 hsb hg0
  go_wp2_with fail
  go_loopw [4] (fun i wr => ∃ j : Nat, i = .int .i64 (j : Int) ∧ j ≤ n ∧ SB w g0 g1 (partS n l j) wr) (fun i _ => n - (intOf i).toNat)
  case atStart => exact ⟨0, rfl, Nat.zero_le _, HSB.out⟩
  case round =>
    clear HSB
    obtain ⟨j, rfl, hj, hsb⟩ := hrel
    have HS := Lib.hid hsb
    have hj0 : (0 : Int) ≤ (j : Int) := by omega
    clear hsb
    by_cases hlt : j < n
    · have hji : (j : Int) < (n : Int) := by omega
      obtain ⟨e, he⟩ : ∃ e, l[j]? = some e := ⟨_, List.getElem?_eq_getElem (by have := HN.out; omega)⟩
      obtain ⟨b, off, hab, hbw, c0, c1⟩ := (HE.out.below HS.out.below).at he
      have ht : l.take (j + 1) = l.take j ++ [e] := by
        obtain ⟨h1, h2⟩ := List.getElem?_eq_some_iff.1 he
        rw [List.take_succ_eq_append_getElem h1, h2]
      have hnil : l.take j = [] ↔ j = 0 := by
        rw [List.take_eq_nil_iff]
        constructor
        · rintro (h | h)
          · exact h
          · rw [h] at he; simp at he
        · exact .inl
      have HST : Hid (partS n l (j + 1) = ⟨(n : Int), wrap64 (sumV (l.take j) + e.val), if j = 0 ∨ e.val < mnV (l.take j) then e.val else mnV (l.take j), if j = 0 ∨ mxV (l.take j) < e.val then e.val else mxV (l.take j)⟩) := by
        show partS n l (j + 1) = _
        unfold partS
        rw [ht, sumV_snoc, mnV_snoc, mxV_snoc]
        simp only [hnil]
      have HEC : Hid (∀ wx, Below w.heap.size w wx → wx.cell? ⟨b, off + j * 2 + 1, none⟩ = some (.int .i64 e.val)) := fun wx hb => by
        obtain ⟨b', off', h1, h2, h3, h4⟩ := (HE.out.below hb).at he
        rw [hab] at h1
        obtain ⟨rfl, rfl⟩ : b = b' ∧ off = off' := by simpa using h1
        exact h4
      have HLT := Lib.hid hlt
      have hs0 := HS.out
      unfold partS at hs0
      obtain ⟨S, hS⟩ : ∃ S, sumV (l.take j) = S := ⟨_, rfl⟩
      obtain ⟨MN, hMN⟩ : ∃ S, mnV (l.take j) = S := ⟨_, rfl⟩
      obtain ⟨MX, hMX⟩ : ∃ S, mxV (l.take j) = S := ⟨_, rfl⟩
      rw [hS, hMN, hMX] at hs0
      rw [hS, hMN, hMX] at HST
      obtain ⟨-, s1, -, -⟩ := hs0.cells
      have f1 := hs0.frozen 1
      have hs1 := hs0.set1 (wrap64 (S + e.val))
      have HS1 := Lib.hid hs1
      have HAB := Lib.hid hab
      subst hab
      clear he hbw c0 ht hnil hlt hj hs0 hs1 HS hS hMN hMX
      go_upto_region 7 with fail
      generalize wr.setCell ⟨g1, 1, none⟩ (.int .i64 (wrap64 (S + e.val))) = w3 at HS1 ⊢
      clear s1 f1 c1
      obtain ⟨-, -, s2, s3⟩ := HS1.out.cells
      have f2 := HS1.out.frozen 2
      have f3 := HS1.out.frozen 3
      replace s2 : w3.cell? ⟨g1, 2, none⟩ = some (.int .i64 MN) := s2
      replace s3 : w3.cell? ⟨g1, 3, none⟩ = some (.int .i64 MX) := s3
      by_cases h0 : j = 0
      · have hj00 : ((j : Int) == 0) = true := by simp; exact h0
        have HP : Hid (partS n l (j + 1) = ⟨(n : Int), wrap64 (S + e.val), e.val, e.val⟩) := by show _ = _; rw [HST.out, if_pos (.inl h0), if_pos (.inl h0)]
        clear h0
        go_upto_region 9 with fail
        have hs2 := HS1.out.set2 e.val
        have HS2 := Lib.hid hs2
        clear hs2 s2 s3 f2 f3
        generalize w3.setCell ⟨g1, 2, none⟩ (.int .i64 e.val) = w4 at HS2 ⊢
        obtain ⟨-, -, -, s3⟩ := HS2.out.cells
        have f3 := HS2.out.frozen 3
        replace s3 : w4.cell? ⟨g1, 3, none⟩ = some (.int .i64 MX) := s3
        go_wp2_with fail
        exact ⟨⟨j + 1, by go_num, by have := HLT.out; omega, by rw [HP.out]; exact HS2.out.set3 e.val⟩, by have := HLT.out; simp [intOf]; omega⟩
      · have hj00 : ((j : Int) == 0) = false := by simp; exact h0
        by_cases h1 : e.val < MN
        · have d1 : decide (e.val < MN) = true := decide_eq_true h1
          by_cases h2 : MX < e.val
          · have d2 : decide (e.val > MX) = true := decide_eq_true h2
            have d3 : decide (MX < e.val) = true := decide_eq_true h2
            have HP : Hid (partS n l (j + 1) = ⟨(n : Int), wrap64 (S + e.val), e.val, e.val⟩) := by show _ = _; rw [HST.out, if_pos (.inr h1), if_pos (.inr h2)]
            clear h0 h1 h2
            go_upto_region 9 with fail
            have hs2 := HS1.out.set2 e.val
            have HS2 := Lib.hid hs2
            clear hs2 s2 s3 f2 f3
            generalize w3.setCell ⟨g1, 2, none⟩ (.int .i64 e.val) = w4 at HS2 ⊢
            obtain ⟨-, -, -, s3⟩ := HS2.out.cells
            have f3 := HS2.out.frozen 3
            replace s3 : w4.cell? ⟨g1, 3, none⟩ = some (.int .i64 MX) := s3
            go_wp2_with fail
            exact ⟨⟨j + 1, by go_num, by have := HLT.out; omega, by rw [HP.out]; exact HS2.out.set3 e.val⟩, by have := HLT.out; simp [intOf]; omega⟩
          · have d2 : decide (e.val > MX) = false := decide_eq_false h2
            have d3 : decide (MX < e.val) = false := decide_eq_false h2
            have HP : Hid (partS n l (j + 1) = ⟨(n : Int), wrap64 (S + e.val), e.val, MX⟩) := by show _ = _; rw [HST.out, if_pos (.inr h1), if_neg (by omega)]
            clear h0 h1 h2
            go_upto_region 9 with fail
            have hs2 := HS1.out.set2 e.val
            have HS2 := Lib.hid hs2
            clear hs2 s2 s3 f2 f3
            generalize w3.setCell ⟨g1, 2, none⟩ (.int .i64 e.val) = w4 at HS2 ⊢
            obtain ⟨-, -, -, s3⟩ := HS2.out.cells
            have f3 := HS2.out.frozen 3
            replace s3 : w4.cell? ⟨g1, 3, none⟩ = some (.int .i64 MX) := s3
            go_wp2_with fail
            exact ⟨⟨j + 1, by go_num, by have := HLT.out; omega, by rw [HP.out]; exact HS2.out⟩, by have := HLT.out; simp [intOf]; omega⟩
        · have d1 : decide (e.val < MN) = false := decide_eq_false h1
          by_cases h2 : MX < e.val
          · have d2 : decide (e.val > MX) = true := decide_eq_true h2
            have d3 : decide (MX < e.val) = true := decide_eq_true h2
            have HP : Hid (partS n l (j + 1) = ⟨(n : Int), wrap64 (S + e.val), MN, e.val⟩) := by show _ = _; rw [HST.out, if_neg (by omega), if_pos (.inr h2)]
            clear h0 h1 h2
            go_wp2_with fail
            exact ⟨⟨j + 1, by go_num, by have := HLT.out; omega, by rw [HP.out]; exact HS1.out.set3 e.val⟩, by have := HLT.out; simp [intOf]; omega⟩
          · have d2 : decide (e.val > MX) = false := decide_eq_false h2
            have d3 : decide (MX < e.val) = false := decide_eq_false h2
            have HP : Hid (partS n l (j + 1) = ⟨(n : Int), wrap64 (S + e.val), MN, MX⟩) := by show _ = _; rw [HST.out, if_neg (by omega), if_neg (by omega)]
            clear h0 h1 h2
            go_wp2_with fail
            exact ⟨⟨j + 1, by go_num, by have := HLT.out; omega, by rw [HP.out]; exact HS1.out⟩, by have := HLT.out; simp [intOf]; omega⟩
    · have hji : ¬ (j : Int) < (n : Int) := by omega
      have hpe : partS n l j = sumE l := by
        unfold partS sumE
        rw [List.take_of_length_le (by have := HN.out; omega), HN.out]
      have hs0 := HS.out
      rw [hpe] at hs0
      have HS0 := Lib.hid hs0
      have HB : Hid (Below w.heap.size w (wr.setRow g0 (smA (sumE l)))) := below_setRow hs0.below (by have := hs0.h0; omega) _
      clear hlt hj hpe hs0 HS
      go_wp2_with (first
        | refine wpList_load_row rfl 25 (.tmp 3) rfl g1 rfl 25 _ (0, 0) _ HS0.out.b1 HU.out rfl HIN.out ?_
        | refine wpList_store_row rfl 25 (.tmp 2) (.tmp 45) rfl g0 (smA (sumE l)) rfl rfl 25 _ HS0.out.b0 HIN.out rfl (smA_one _) ?_)
      exact bodyPost_ret (v := .agg (smA (sumE l))) (results_cell_row rfl _ _ g0 25 (smA (sumE l)) (0, 0) _ rfl (setRow_heap _ _ _ _ _ _ HS0.out.b0) HU.out rfl HIN.out) rfl ⟨rfl, HB.out⟩
end Go.Proofs.Ytbjmblfifnjafaa
