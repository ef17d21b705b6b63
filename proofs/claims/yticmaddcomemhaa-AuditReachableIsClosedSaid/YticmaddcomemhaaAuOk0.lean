/- The program's audit: isSlot, isAllocated, addOne. -/
import Derived.Test.YticmaddcomemhaaDumpE
set_option linter.unusedVariables false
namespace Go.Proofs.Yticmaddcomemhaa
open Go.RowKit

set_option maxRecDepth 100000 in
theorem isSlot_any (i n : Nat) (w : World) (hi : i < 4294967296) (hn : n ≤ 1000000) :
    Calls Try.prog 34 #[.int .u32 (i : Int), .int .i64 (n : Int)] w (fun e w' => e = .returned (.bool (decide (1 ≤ i ∧ i ≤ n))) ∧ w = w') := by
  have hni : (n : Int) ≤ 1000000 := by omega
  have hii : (i : Int) < 4294967296 := by omega
  by_cases h0 : i = 0
  · subst h0
    rw [show decide (1 ≤ 0 ∧ 0 ≤ n) = false by simp]
    clear hi hn
    go_enter Try.func34, Try.ntmps34
    go_wp2
    go_ret
    exact ⟨rfl, rfl⟩
  · have h1 : (1 : Int) ≤ (i : Int) := by omega
    by_cases h2 : i ≤ n
    · have h3 : (i : Int) ≤ (n : Int) := by omega
      rw [show decide (1 ≤ i ∧ i ≤ n) = true by simp; omega]
      clear hi hn h0 h2
      go_enter Try.func34, Try.ntmps34
      go_wp2
      go_ret
      exact ⟨rfl, rfl⟩
    · have h3 : ¬ (i : Int) ≤ (n : Int) := by omega
      rw [show decide (1 ≤ i ∧ i ≤ n) = false by simp; omega]
      clear hi hn h0 h2
      go_enter Try.func34, Try.ntmps34
      go_wp2
      go_ret
      exact ⟨rfl, rfl⟩
set_option maxHeartbeats 1000000 in
set_option maxRecDepth 100000 in
theorem isAlloc_any {w : World} {a b : Option Addr} {n c m d i : Nat} {S : Nat → Sl} (h : SlotsAt w a n S) (hn : n ≤ 65536) (hi : i < 4294967296) :
    Calls Try.prog 36 #[.agg #[.slice a n c, .slice b m d], .int .u32 (i : Int)] w (Calm w (.bool (decide (1 ≤ i ∧ i ≤ n ∧ (S (i - 1)).on = true)))) := by
  have hb1 : Below w.heap.size w (w.alloc (Obj.cells #[Value.slice a n c, Value.slice b m d] 25)) := (Below.refl _ _).alloc (Nat.le_refl _) _
  have HB := Lib.hid hb1
  clear hb1
  have hni : (n : Int) ≤ 65536 := by omega
  by_cases h0 : 1 ≤ i ∧ i ≤ n
  · obtain ⟨j, rfl⟩ : ∃ j, i = j + 1 := ⟨i - 1, by omega⟩
    obtain ⟨b', off, rfl, hlt, hc⟩ := h.cell j (by omega)
    have hc0 : w.cell? ⟨b', off + j * 11, none⟩ = _ := hc 0 _ rfl
    have hjn : (j : Int) < (n : Int) := by omega
    have hjn2 : (j : Int) + 1 ≤ (n : Int) := by omega
    have hj1 : (1 : Int) ≤ (j : Int) + 1 := by omega
    have hcall := isSlot_any (j + 1) n
    rw [show decide (1 ≤ j + 1 ∧ j + 1 ≤ n) = true by simp; omega] at hcall
    have HC := Lib.hid hcall
    rw [show decide (1 ≤ j + 1 ∧ j + 1 ≤ n ∧ (S (j + 1 - 1)).on = true) = (S j).on by
      have : 1 ≤ j + 1 ∧ j + 1 ≤ n := h0
      simp [this]]
    generalize (S j).on = o at *
    clear h hc h0 hcall
    go_enter Try.func36, Try.ntmps36
    go_wp2_with fail
    refine (HC.out _ hi (by omega)).mono ?_
    rintro e w2 ⟨rfl, rfl⟩
    go_wp2
    go_ret
    exact ⟨rfl, HB.out⟩
  · rw [show decide (1 ≤ i ∧ i ≤ n ∧ (S (i - 1)).on = true) = false by simp; omega]
    have hcall := isSlot_any i n
    rw [show decide (1 ≤ i ∧ i ≤ n) = false by simp; omega] at hcall
    have HC := Lib.hid hcall
    clear h h0 hcall
    go_enter Try.func36, Try.ntmps36
    go_wp2_with fail
    refine (HC.out _ hi (by omega)).mono ?_
    rintro e w2 ⟨rfl, rfl⟩
    go_wp2
    go_ret
    exact ⟨rfl, HB.out⟩
/-- block g alone was changed -/
structure OnlyB (g : Nat) (w w' : World) : Prop where
  os : w'.os = w.os
  tape : w'.tape = w.tape
  output : w'.output = w.output
  size : w'.heap.size = w.heap.size
  block : ∀ k, k ≠ g → w'.heap[k]? = w.heap[k]?
theorem OnlyB.refl (g : Nat) (w : World) : OnlyB g w w := ⟨rfl, rfl, rfl, rfl, fun _ _ => rfl⟩
theorem OnlyB.set (w : World) (g j : Nat) (v : Value) : OnlyB g w (w.setCell ⟨g, j, none⟩ v) :=
  ⟨rfl, rfl, rfl, by simp [World.setCell], fun k hk => heap_setCell_other _ _ _ _ hk⟩
theorem OnlyB.below {g B : Nat} {w0 w w' : World} (h : OnlyB g w w') (hb : Below B w0 w) (hB : B ≤ g) : Below B w0 w' :=
  hb.trans ⟨h.os, h.tape, h.output, Nat.le_of_eq h.size.symm, fun k hk => h.block k (by omega)⟩
/-- a row of numbers after one of them may have grown -/
def plus1 (f : Nat → Nat) (i : Nat) : Nat → Nat := fun j => f j + if i = j + 1 then 1 else 0
def AddResA (B g n : Nat) (f : Nat → Nat) (i : Nat) (w : World) (e : Ending) (w' : World) : Prop :=
  e = .returned (.tuple #[]) ∧ OnlyB g w w' ∧ w'.ownsRow B 3 1 (.slice (some ⟨g, 0, none⟩) n n) n (natR n (plus1 f i))
theorem natR_ext {n : Nat} {f g : Nat → Nat} (h : ∀ i, i < n → f i = g i) : natR n f = natR n g := by
  unfold natR
  refine List.map_congr_left fun i hi => ?_
  rw [List.mem_range] at hi
  rw [h i hi]
set_option maxHeartbeats 1000000 in
set_option maxRecDepth 100000 in
theorem addOne_any {w : World} {B g n : Nat} {f : Nat → Nat} (i : Nat) (h : w.ownsRow B 3 1 (.slice (some ⟨g, 0, none⟩) n n) n (natR n f)) (hi : i < 4294967296) (hn : n ≤ 65536) (hf : ∀ j, f j ≤ 4000000) :
    Calls Try.prog 22 #[.slice (some ⟨g, 0, none⟩) n n, .int .u32 (i : Int)] w (AddResA B g n f i w) := by
  have hni : (n : Int) ≤ 65536 := by omega
  by_cases h0 : 1 ≤ i ∧ i ≤ n
  · obtain ⟨j, rfl⟩ : ∃ j, i = j + 1 := ⟨i - 1, by omega⟩
    have hcall := isSlot_any (j + 1) n
    rw [show decide (1 ≤ j + 1 ∧ j + 1 ≤ n) = true by simp; omega] at hcall
    have HC := Lib.hid hcall
    have hjn : j < n := by omega
    have hji : (j : Int) < (n : Int) := by omega
    have hj1 : (1 : Int) ≤ (j : Int) + 1 := by omega
    have hj0 : (0 : Int) ≤ (j : Int) := by omega
    have hcj := (h.cellAt j (by omega)).trans (natR_at _ hjn)
    have hfj := h.frozenAt j
    have hT := hf j
    have hst := (h.stored j (.int .i64 ((f j : Nat) + 1 : Int))).1
    rw [natR_set f _ (f j + 1) (by omega)] at hst
    have HS : Hid ((w.setCell ⟨g, j, none⟩ (.int .i64 ((f j : Nat) + 1 : Int))).ownsRow B 3 1 (.slice (some ⟨g, 0, none⟩) n n) n (natR n (plus1 f (j + 1)))) := by
      show World.ownsRow _ _ _ _ _ _ _
      have e : natR n (fun i => if i = j then f j + 1 else f i) = natR n (plus1 f (j + 1)) := natR_ext fun i _ => by
        unfold plus1
        by_cases e : i = j
        · subst e; rw [if_pos rfl, if_pos rfl]
        · rw [if_neg e, if_neg (by omega)]; rfl
      rw [← e]
      exact hst
    have HO := Lib.hid (OnlyB.set w g j (.int .i64 ((f j : Nat) + 1 : Int)))
    generalize f j = T at hcj hT HS HO
    have hTi : (T : Int) ≤ 4000000 := by omega
    have hTi0 : (0 : Int) ≤ (T : Int) := by omega
    have hn6 : n ≤ 1000000 := by omega
    clear h h0 hcall hst hf hn
    go_enter Try.func22, Try.ntmps22
    go_wp2_with fail
    refine (HC.out _ hi hn6).mono ?_
    rintro e w2 ⟨rfl, rfl⟩
    go_wp2
    go_end0
    exact ⟨rfl, HO.out, HS.out⟩
  · have hcall := isSlot_any i n
    rw [show decide (1 ≤ i ∧ i ≤ n) = false by simp; omega] at hcall
    have HC := Lib.hid hcall
    have HR : Hid (w.ownsRow B 3 1 (.slice (some ⟨g, 0, none⟩) n n) n (natR n (plus1 f i))) := by
      show World.ownsRow _ _ _ _ _ _ _
      rw [natR_ext (f := plus1 f i) (g := f) fun j hj => by unfold plus1; rw [if_neg (by omega)]; rfl]
      exact h
    have hn6 : n ≤ 1000000 := by omega
    clear h h0 hcall hf hn
    go_enter Try.func22, Try.ntmps22
    go_wp2_with fail
    refine (HC.out _ hi hn6).mono ?_
    rintro e w2 ⟨rfl, rfl⟩
    go_wp2
    go_end0
    exact ⟨rfl, OnlyB.refl _ _, HR.out⟩
end Go.Proofs.Yticmaddcomemhaa
