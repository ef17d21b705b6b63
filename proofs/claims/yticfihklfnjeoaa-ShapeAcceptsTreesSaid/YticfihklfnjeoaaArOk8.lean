/- The program's arena: New, Dump. -/
import Derived.Test.YticfihklfnjeoaaArOk7
set_option linter.unusedVariables false
namespace Go.Proofs.Yticfihklfnjeoaa
open Go.RowKit
def celZ : Value := .agg #[.int .i64 0, .int .i64 0, .int .u32 0, .int .u32 0, .int .i64 0, .int .i64 0, .int .i64 0, .int .i64 0, .int .i64 0]
theorem celInfo : (Try.prog.info? 78).map (fun i => (i.zero, i.size, i.bytes)) = some (some celZ, 9, 64) := by kernel_rfl
theorem cels_zero (n : Nat) : (madeCells celZ.cells (n * 9)).toList = celsV (Ar.init n) := by
  refine cels_ext (by rw [Array.length_toList, size_madeCells]; rfl) fun i j hi hj => ?_
  have hi' : i < n := hi
  unfold madeCells
  simp only [Array.toList_map, Array.toList_range, List.getElem?_map, List.getElem?_range (show i * 9 + j < n * 9 by omega), Option.map_some]
  have e : (i * 9 + j) % celZ.cells.size = j := by
    show (i * 9 + j) % 9 = j
    omega
  rcases (show j = 0 ∨ j = 1 ∨ j = 2 ∨ j = 3 ∨ j = 4 ∨ j = 5 ∨ j = 6 ∨ j = 7 ∨ j = 8 by omega) with h | h | h | h | h | h | h | h | h <;> (subst h; rw [e]; rfl)
section
variable {I : Impl} {w w' wr : World} {ab : Nat} {sp : Addr} {A A' : Ar} {rd : Int} {cc g : Nat} {Fs Fs' : Nat → Prop}
set_option maxHeartbeats 1000000 in
set_option maxRecDepth 100000 in
theorem a_new_bad (I : Impl) (n : Int) (w : World) (h1 : -9223372036854775808 ≤ n) (h2 : n ≤ 9223372036854775807) (h : n < 1 ∨ 65536 < n) :
    Calls Try.prog 28 #[.int .i64 n] w (Calm w (.tuple #[.pointer none, .int .i64 1])) := by
  have HN := Lib.hid (I.new_bad n w h1 h2 h)
  clear h
  go_enter Try.func28, Try.ntmps28
  go_wp2_with fail
  refine HN.out.mono ?_
  rintro e w1 ⟨rfl, hb⟩
  have HB := Lib.hid hb
  clear hb HN
  go_wp2_with fail
  go_ret2
  exact ⟨rfl, HB.out⟩
def ANewR (I : Impl) (w : World) (n : Nat) (e : Ending) (w' : World) : Prop :=
  ∃ (ab : Nat) (sp : Addr) (g : Nat) (Fs : Nat → Prop), e = .returned (.tuple #[.pointer (some ⟨ab, 0, none⟩), .int .i64 0]) ∧ LieA I w' ab sp (Ar.init n) 0 (some ⟨g, 0, none⟩) n Fs ∧ (∀ k, FootA ab (some ⟨g, 0, none⟩) Fs k → w.heap.size ≤ k) ∧ Below w.heap.size w w'
set_option maxHeartbeats 2000000 in
set_option maxRecDepth 100000 in
theorem a_new (I : Impl) (n : Nat) (w : World) (h1 : 1 ≤ n) (h2 : n ≤ 65536) : Calls Try.prog 28 #[.int .i64 (n : Int)] w (ANewR I w n) := by
  obtain ⟨i0, hi, hz0, hz1, hz2⟩ := info_parts celInfo
  have hni : (n : Int) ≤ 65536 := by omega
  have hni1 : (1 : Int) ≤ (n : Int) := by omega
  go_enter Try.func28, Try.ntmps28
  go_wp2_with fail
  refine (I.new_ok n _ h1 h2).mono ?_
  rintro e w1 ⟨p, Fs, rfl, hs, hF, hb⟩
  obtain ⟨sp, rfl⟩ := I.ptr hs
  go_wp2_with (refine wpList_make_full _ rfl (.tmp 15) (.tmp 15) 74 rfl 0 78 i0 celZ 9 Try.underlying74 hi hz0 hz1 .i64 .i64 (n : Int) (n : Int) n rfl rfl rfl rfl (by rw [hz2]; omega) (by unfold maxLen; omega) (Nat.zero_le _) ?_; intro w2 ho2 hg2)
  go_ret2
  have hb2 : Below w1.heap.size w1 w2 := (Below.refl _ _).grown hg2 (Nat.le_refl _) (fun k hk => by cases hk)
  have hal := below_al w2 (Obj.cells #[Value.pointer (some sp), Value.slice (some ⟨w1.heap.size, 0, none⟩) n n, Value.int .u64 0] 76)
  have hs12 := hb2.size
  have hb3 := hb2.trans (hal.mono hs12)
  have hlt := (row_lt ho2 w1.heap.size rfl).2
  have hs01 := hb.size
  rw [cels_zero] at ho2
  refine ⟨w2.heap.size, sp, w1.heap.size, Fs, rfl, ⟨I.below hs hb3, heap_alloc_new w2 _, row_below ho2 hal, fun _ _ => ⟨rfl, rfl⟩, fun _ => ⟨Int.le_refl 0, show (0 : Int) ≤ 9223372036854775807 by decide⟩, fun hf => ?_, fun k hk => ?_⟩, fun k hk => ?_, hb.trans (hb3.mono hs01)⟩
  · have := I.dom hs _ hf; omega
  · simp [Value.ownBlock] at hk
    subst hk
    exact ⟨fun hf => by have := I.dom hs _ hf; omega, by omega⟩
  · rcases hk with rfl | ⟨x, hx, rfl⟩ | hk
    · omega
    · simp at hx; subst hx; exact hs01
    · exact hF k hk
end
end Go.Proofs.Yticfihklfnjeoaa
