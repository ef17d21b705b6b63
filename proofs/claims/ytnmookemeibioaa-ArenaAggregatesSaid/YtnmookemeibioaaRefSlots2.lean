/- The reference's New, Release and Alloc keep the plain state. -/
import Derived.Test.YtnmookemeibioaaRefSlots
import Derived.Deep.OwnRows
set_option linter.unusedVariables false
namespace Go.Proofs.Ytnmookemeibioaa
open Go.RowKit

theorem boolsInfo : (Try.prog.info? 4).map (fun i => (i.zero, i.size, i.bytes)) = some (some (.bool false), 1, 1) := by kernel_rfl
theorem gens_init (n : Nat) : gens (St.init n) = List.replicate n (.int .u32 0) := by
  apply List.ext_getElem
  · simp [gens, St.init]
  · intro j h1 h2; simp [gens, St.init]
theorem ons_init (n : Nat) : ons (St.init n) = List.replicate n (.bool false) := by
  apply List.ext_getElem
  · simp [ons, St.init]
  · intro j h1 h2; simp [ons, St.init]
theorem made_list (v : Value) (n : Nat) : (madeCells #[v] n).toList = List.replicate n v := toList_madeCells_one v n
theorem own_full {w : World} {B g n : Nat} {e : TypeId} {cur : Array Value} (hg : w.heap[g]? = some (.cells cur e (0, 0))) (hn : cur.size = n) (hB : B ≤ g) (hm : n ≤ maxLen) : w.ownsRow B e 1 (.slice (some ⟨g, 0, none⟩) n n) n cur.toList :=
  ⟨by simp [hn], .inr ⟨g, n, cur, rfl, hB, hg, Nat.le_refl _, hm, by omega, by rw [Nat.mul_one, List.take_of_length_le (by simp [hn])]⟩⟩
theorem three_mid (w : World) (A M T : Obj) : (((w.alloc A).alloc M).alloc T).drew.heap[w.heap.size + 1]? = some M := by
  show (((w.alloc A).alloc M).alloc T).heap[w.heap.size + 1]? = some M
  rw [heap_alloc_old _ _ (by simp)]
  exact heap_alloc2_new w A M
theorem three_top (w : World) (A M T : Obj) : (((w.alloc A).alloc M).alloc T).drew.heap[w.heap.size + 1 + 1]? = some T := by
  show (((w.alloc A).alloc M).alloc T).heap[w.heap.size + 1 + 1]? = some T
  have h := heap_alloc_new ((w.alloc A).alloc M) T
  simpa using h
def RefNew (w : World) (n : Nat) (e : Ending) (w' : World) : Prop :=
  ∃ ga oa gc oc, e = .returned (.agg (refV (St.init n) [] 1 none ga oa 0 gc oc)) ∧ RefAt w.heap.size (fun k => w.heap.size ≤ k) w' (St.init n) [] 1 none ga oa 0 gc oc ∧ Below w.heap.size w w'

set_option maxHeartbeats 1000000 in
set_option maxRecDepth 100000 in
theorem ref_new (n : Nat) (w : World) (h1 : 1 ≤ n) (h2 : n ≤ 65536) : Calls Try.prog 48 #[.int .i64 (n : Int)] w (RefNew w n) := by
  obtain ⟨i0, hi, hz0, hz1, hz2⟩ := info_parts u32sInfo
  obtain ⟨i1, ji, jz0, jz1, jz2⟩ := info_parts boolsInfo
  have hm1 := Go.run_make_row (P := Try.prog) 33 41 i0 (.int .u32 0) Try.underlying33 hi hz0 hz1 rfl .i64 .i64 n (by rw [hz2]; omega) (by omega)
  have hm2 := Go.run_make_row (P := Try.prog) 54 4 i1 (.bool false) Try.underlying54 ji jz0 jz1 rfl .i64 .i64 n (by rw [jz2]; omega) (by omega)
  have hu : (Try.prog.underlying 56).isSome = true := by kernel_rfl
  obtain ⟨ud, hud⟩ := Option.isSome_iff_exists.1 hu
  have HU : Hid _ := Lib.hid Try.underlying56
  have hin : (Try.prog.info? 56).map (·.size) = some 5 := by kernel_rfl
  have HI := Lib.hid hin
  clear hi hz0 hz1 hz2 ji jz0 jz1 jz2 hu hud hin
  go_enter Try.func48, Try.ntmps48
  go_wp2
  go_region_with fail
  · go_wp2
    refine bodyPost_ret (v := .agg (refV (St.init n) [] 1 none (some ⟨w.heap.size + 1, 0, none⟩) (some ⟨w.heap.size + 1 + 1, 0, none⟩) 0 n n)) (results_cell_row rfl _ _ w.heap.size 56 _ (0, 0) _ rfl ?_ HU.out rfl HI.out) rfl ⟨some ⟨w.heap.size + 1, 0, none⟩, some ⟨w.heap.size + 1 + 1, 0, none⟩, n, n, rfl, ?_, ?_⟩
    · show (World.alloc _ _).heap[w.heap.size]? = _
      rw [heap_alloc_old _ _ (by simp; omega), heap_alloc_old _ _ (by simp), heap_alloc_new]
      rfl
    · refine ⟨by simp [St.init], Nat.le_refl _, by simp [St.init], World.ownsRow_nil _ _ _ _, ?_, ?_, fun k hk => by simp [Value.ownBlock] at hk, fun k hk => by simp [Value.ownBlock] at hk; omega, fun k hk => by simp [Value.ownBlock] at hk; omega⟩
      · rw [gens_init, ← made_list]
        exact own_full (three_mid w _ _ _) (by simp [madeCells, St.init]) (by omega) (by unfold maxLen; show n ≤ _; omega)
      · rw [ons_init, ← made_list]
        exact own_full (three_top w _ _ _) (by simp [madeCells, St.init]) (by omega) (by unfold maxLen; show n ≤ _; omega)
    · exact ((((Below.refl _ _).alloc (Nat.le_refl _) _).alloc (by simp) _).alloc (by simp; omega) _).drew
  · go_wp2
    refine bodyPost_ret (v := .agg (refV (St.init n) [] 1 none (some ⟨w.heap.size + 1 + 1, 0, none⟩) (some ⟨w.heap.size + 1, 0, none⟩) 0 n n)) (results_cell_row rfl _ _ w.heap.size 56 _ (0, 0) _ rfl ?_ HU.out rfl HI.out) rfl ⟨some ⟨w.heap.size + 1 + 1, 0, none⟩, some ⟨w.heap.size + 1, 0, none⟩, n, n, rfl, ?_, ?_⟩
    · show (World.alloc _ _).heap[w.heap.size]? = _
      rw [heap_alloc_old _ _ (by simp; omega), heap_alloc_old _ _ (by simp), heap_alloc_new]
      rfl
    · refine ⟨by simp [St.init], Nat.le_refl _, by simp [St.init], World.ownsRow_nil _ _ _ _, ?_, ?_, fun k hk => by simp [Value.ownBlock] at hk, fun k hk => by simp [Value.ownBlock] at hk; omega, fun k hk => by simp [Value.ownBlock] at hk; omega⟩
      · rw [gens_init, ← made_list]
        exact own_full (three_top w _ _ _) (by simp [madeCells, St.init]) (by omega) (by unfold maxLen; show n ≤ _; omega)
      · rw [ons_init, ← made_list]
        exact own_full (three_mid w _ _ _) (by simp [madeCells, St.init]) (by omega) (by unfold maxLen; show n ≤ _; omega)
    · exact ((((Below.refl _ _).alloc (Nat.le_refl _) _).alloc (by simp) _).alloc (by simp; omega) _).drew
end Go.Proofs.Ytnmookemeibioaa
