/- The program's allocator: New, and all of it together. -/
import Derived.Test.YtnmookemeibioaaSlotsOk4
set_option linter.unusedVariables false
namespace Go.Proofs.Ytnmookemeibioaa
open Go.RowKit
theorem stateInfo : (Try.prog.info? 101).map (fun i => (i.zero, i.size, i.bytes)) = some (some (.agg #[.bool false, .int .u32 0]), 2, 8) := by kernel_rfl
theorem sts_init (n : Nat) : sts (St.init n) = (madeCells (Value.agg #[.bool false, .int .u32 0]).cells (n * 2)).toList := by
  apply List.ext_getElem
  · simp [sts, St.init, madeCells]
  · intro j h1 h2
    have h3 : (Value.agg #[.bool false, .int .u32 0]).cells = #[.bool false, .int .u32 0] := by kernel_rfl
    rcases Nat.mod_two_eq_zero_or_one j with h4 | h4 <;> simp [sts, St.init, madeCells, h3, h4]
set_option maxHeartbeats 1000000 in
set_option maxRecDepth 100000 in
theorem s_new_bad (n : Int) (w : World) (h1 : -9223372036854775808 ≤ n) (h2 : n ≤ 9223372036854775807) (h : n < 1 ∨ 65536 < n) :
    Calls Try.prog 40 #[.int .i64 n] w (Calm w (.tuple #[.pointer none, .int .i64 1])) := by
  rcases (show n < 1 ∨ 1 ≤ n by omega) with hn | hn
  · clear h
    go_enter Try.func40, Try.ntmps40
    go_wp2
    go_ret2
    exact ⟨rfl, Below.refl _ _⟩
  · have hm : 65536 < n := by omega
    clear h
    go_enter Try.func40, Try.ntmps40
    go_wp2
    go_ret2
    exact ⟨rfl, Below.refl _ _⟩
def SNew (w : World) (n : Nat) (e : Ending) (w' : World) : Prop :=
  ∃ (pb : Nat) (sa : Option Addr) (sc : Nat), e = .returned (.tuple #[.pointer (some ⟨pb, 0, none⟩), .int .i64 0]) ∧ Lie w' pb (St.init n) [] 0 sa none sc 0 ∧ (∀ k, Foot pb sa none k → w.heap.size ≤ k) ∧ Below w.heap.size w w'
set_option maxHeartbeats 2000000 in
set_option maxRecDepth 100000 in
theorem s_new (n : Nat) (w : World) (h1 : 1 ≤ n) (h2 : n ≤ 65536) : Calls Try.prog 40 #[.int .i64 (n : Int)] w (SNew w n) := by
  obtain ⟨i0, hi, hz0, hz1, hz2⟩ := info_parts stateInfo
  have hni : (n : Int) ≤ 65536 := by omega
  have hni1 : (1 : Int) ≤ (n : Int) := by omega
  have hni2 : ¬ n = 0 := by omega
  have hni3 : ¬ (n : Int) < 1 := by omega
  go_enter Try.func40, Try.ntmps40
  go_wp2_with (refine wpList_make_full _ rfl (.tmp 10) (.tmp 10) 97 rfl 0 101 i0 (.agg #[.bool false, .int .u32 0]) 2 Try.underlying97 hi hz0 hz1 .i64 .i64 (n : Int) (n : Int) n rfl rfl rfl rfl (by rw [hz2]; omega) (by unfold maxLen; omega) (Nat.zero_le _) ?_; intro w2 ho2 hg2)
  go_ret2
  have hsz : w.heap.size ≤ w2.heap.size := hg2.size
  have hb2 : Below w.heap.size w w2 := (Below.refl _ _).grown hg2 (Nat.le_refl _) (fun k hk => by cases hk)
  have hb3 := hb2.alloc hsz (Obj.cells #[Value.slice (some { block := w.heap.size, off := 0 }) n n, Value.slice none 0 0, Value.int IntKind.i64 0] 99)
  rw [← sts_init] at ho2
  have hlt := row_lt ho2 w.heap.size rfl
  refine ⟨w2.heap.size, some ⟨w.heap.size, 0, none⟩, n, rfl, ⟨St.init_ok h1 h2, by simp [St.init], Nat.zero_le _, ?_, ?_, World.ownsRow_nil _ _ _ _, ?_, by simp [Value.ownBlock]⟩, ?_, hb3⟩
  · exact heap_alloc_new w2 _
  · exact row_below ho2 ((Below.refl _ _).alloc (Nat.le_refl _) _)
  · simp [Value.ownBlock]; omega
  · intro k hk
    rcases hk with rfl | ⟨x, hx, rfl⟩ | ⟨x, hx, rfl⟩
    · exact hsz
    · simp at hx; subst hx; exact Nat.le_refl _
    · simp at hx

/-- the program keeps what is asked -/
def slotsImpl : Impl where
  Is := IsS
  dom := fun h k hk => by
    obtain ⟨pb, st, us, sa, ra, sc, rc, rfl, hl, hF⟩ := h
    exact hl.dom k ((hF k).1 hk)
  keep := fun h hk => by
    obtain ⟨pb, st, us, sa, ra, sc, rc, rfl, hl, hF⟩ := h
    exact ⟨pb, st, us, sa, ra, sc, rc, rfl, hl.keep fun k h1 => hk k ((hF k).2 h1), hF⟩
  ok := fun h => by
    obtain ⟨pb, st, us, sa, ra, sc, rc, rfl, hl, hF⟩ := h
    exact hl.ok
  ptr := fun h => by
    obtain ⟨pb, st, us, sa, ra, sc, rc, rfl, hl, hF⟩ := h
    exact ⟨_, rfl⟩
  new_ok := fun n w h1 h2 => (s_new n w h1 h2).mono fun e w1 ⟨pb, sa, sc, he, hl, hf, hb⟩ => ⟨_, Foot pb sa none, he, ⟨pb, [], 0, sa, none, sc, 0, rfl, hl, fun k => Iff.rfl⟩, hf, hb⟩
  new_bad := s_new_bad
  alloc := fun p σ F w h => by
    obtain ⟨pb, st, us, sa, ra, sc, rc, rfl, hl, hF⟩ := h
    obtain rfl : F = Foot pb sa ra := funext fun k => propext (hF k)
    cases hf : σ.free with
    | nil =>
      refine (s_alloc_full hl hf).mono ?_
      rintro e w1 ⟨rfl, q, rfl⟩
      exact ⟨Foot pb sa ra, alters_drewN, fun _ => ⟨rfl, ⟨pb, st, us, sa, ra, sc, rc, rfl, hl.keep fun k _ => rfl, fun k => Iff.rfl⟩⟩, fun i t h => by cases h⟩
    | cons i t =>
      have h1 : Calls Try.prog 57 #[.pointer (some ⟨pb, 0, none⟩)] w (STake w pb σ sa ra sc rc i t) := by
        rcases List.eq_nil_or_concat st with rfl | ⟨s0, X, rfl⟩
        · exact s_alloc_new hl i t hf
        · rw [List.concat_eq_append] at hl
          exact s_alloc_pop hl i t hf
      refine h1.mono ?_
      rintro e w1 ⟨rfl, st', us', hl', ha⟩
      refine ⟨Foot pb sa ra, ha, fun h => (by cases h), fun i' t' h => ?_⟩
      simp only [List.cons.injEq] at h
      obtain ⟨rfl, rfl⟩ := h
      exact ⟨rfl, ⟨pb, st', us', sa, ra, sc, rc, rfl, hl', fun k => Iff.rfl⟩⟩
  release := fun p σ F i w h hi => by
    obtain ⟨pb, st, us, sa, ra, sc, rc, rfl, hl, hF⟩ := h
    obtain rfl : F = Foot pb sa ra := funext fun k => propext (hF k)
    cases ho : σ.on i with
    | false =>
      refine (s_release_off hl i hi ho).mono ?_
      rintro e w1 ⟨rfl, q, rfl⟩
      exact ⟨Foot pb sa ra, alters_drewN, fun _ => ⟨rfl, ⟨pb, st, us, sa, ra, sc, rc, rfl, hl.keep fun k _ => rfl, fun k => Iff.rfl⟩⟩, fun h => by cases h⟩
    | true =>
      obtain ⟨j, rfl⟩ : ∃ j, i = j + 1 := ⟨i - 1, by have := hl.ok.on i ho; omega⟩
      refine (s_release_on hl j hi ho).mono ?_
      rintro e w1 ⟨rfl, ra', rc', hl', ha⟩
      exact ⟨Foot pb sa ra', ha, fun h => (by cases h), fun _ => ⟨rfl, ⟨pb, _, us, sa, ra', sc, rc', rfl, hl', fun k => Iff.rfl⟩⟩⟩
  allocated := fun p σ F i w h hi => by
    obtain ⟨pb, st, us, sa, ra, sc, rc, rfl, hl, hF⟩ := h
    exact s_allocated hl i hi
  generation := fun p σ F i w h hi => by
    obtain ⟨pb, st, us, sa, ra, sc, rc, rfl, hl, hF⟩ := h
    exact s_generation hl i hi
  freeN := fun p σ F w h => by
    obtain ⟨pb, st, us, sa, ra, sc, rc, rfl, hl, hF⟩ := h
    exact s_free hl
  capacity := fun p σ F w h => by
    obtain ⟨pb, st, us, sa, ra, sc, rc, rfl, hl, hF⟩ := h
    exact s_capacity hl
  order := fun p σ F w h => by
    obtain ⟨pb, st, us, sa, ra, sc, rc, rfl, hl, hF⟩ := h
    exact s_order hl
end Go.Proofs.Ytnmookemeibioaa
