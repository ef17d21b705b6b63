/- Reachable, the program's and the reference's: the numbers of the marked slots, in ascending order. -/
import Derived.Test.YticmaddcomemhaaAuOk7
set_option linter.unusedVariables false
namespace Go.Proofs.Yticmaddcomemhaa
open Go.RowKit
/-- the numbers of the marked ones of the first k slots -/
def rchL (R : Nat → Bool) (k : Nat) : List Nat := ((List.range k).filter R).map (· + 1)
theorem rchL_succ (R : Nat → Bool) (k : Nat) : rchL R (k + 1) = rchL R k ++ if R k = true then [k + 1] else [] := by
  unfold rchL
  rw [List.range_succ, List.filter_append, List.map_append]
  congr 1
  by_cases h : R k = true <;> simp [h]
theorem rchL_le (R : Nat → Bool) (k : Nat) : (rchL R k).length ≤ k := by
  unfold rchL
  rw [List.length_map]
  have := List.length_filter_le R (List.range k)
  simpa using this
theorem rchL_ext {B R : Nat → Bool} {k : Nat} (h : ∀ j, j < k → B j = R j) : rchL B k = rchL R k := by
  unfold rchL
  congr 1
  exact List.filter_congr fun j hj => h j (List.mem_range.1 hj)
theorem rchL_mem {R : Nat → Bool} {k x : Nat} : x ∈ rchL R k ↔ 1 ≤ x ∧ x ≤ k ∧ R (x - 1) = true := by
  unfold rchL
  rw [List.mem_map]
  constructor
  · rintro ⟨j, hj, rfl⟩
    rw [List.mem_filter, List.mem_range] at hj
    exact ⟨by omega, by omega, by simpa using hj.2⟩
  · rintro ⟨h1, h2, h3⟩
    exact ⟨x - 1, by rw [List.mem_filter, List.mem_range]; exact ⟨by omega, h3⟩, by omega⟩
def MadeU32 (w : World) (l : List Nat) (e : Ending) (w' : World) : Prop :=
  ∃ a c, e = .returned (.slice a l.length c) ∧ w'.ownsRow w.heap.size 32 1 (.slice a l.length c) l.length (u32s l) ∧ Below w.heap.size w w'
structure RRel (Z : Nat) (w2 : World) (l : List Nat) (x : Value) (wr : World) : Prop where
  val : ∃ a c, x = .slice a l.length c
  row : wr.ownsRow Z 32 1 x l.length (u32s l)
  below : Below Z w2 wr
theorem RRel.push {Z y : Nat} {w2 wr w' : World} {l : List Nat} {x v : Value} (h : RRel Z w2 l x wr) (hZ : w2.heap.size = Z) {o : Obj} (hr : w'.ownsRow Z 32 1 v (l.length + 1) (u32s l ++ [.int .u32 (y : Int)])) (hg : (wr.alloc o).grownBy w' x.ownBlock) : RRel Z w2 (l ++ [y]) v w' := by
  obtain ⟨a, c, hv⟩ := row_val hr
  have hs := h.below.size
  refine ⟨⟨a, c, by rw [List.length_append]; exact hv⟩, by rw [List.length_append, u32s_app]; exact hr, (h.below.trans ((below_new wr o).mono (by omega))).grown hg (by simp; omega) (row_from h.row)⟩
set_option maxHeartbeats 2000000 in
set_option maxRecDepth 100000 in
theorem pReach_any {w : World} {a b ra : Option Addr} {n c m d rc L : Nat} {S : Nat → Sl} (rs : List Nat) (hL : rs.length = L) (h : SlotsAt w a n S) (hr : U32At w ra rs) (hn : n ≤ 65536) (hl : L ≤ 1000000) (R : Nat → Bool) (hR : ∀ j, j < n → (R j = true ↔ Rch S n rs (j + 1))) :
    Calls Try.prog 14 #[.agg #[.slice a n c, .slice b m d], .slice ra L rc] w (MadeU32 w (rchL R n)) := by
  obtain ⟨i1, ji, jz0, jz1, jz2⟩ := info_parts uInfo
  have hni : (n : Int) ≤ 65536 := by omega
  have hb1 := below_new w (Obj.cells #[Value.slice a n c, Value.slice b m d] 25)
  have hcall := pMarks_any (b := b) (m := m) (d := d) (c := c) (rc := rc) rs hL (h.below hb1) (hr.below hb1) hn hl
  obtain ⟨hc0, hc1⟩ := (DBox.new w a b n c m d).cells
  have HC := Lib.hid hcall
  have HB := Lib.hid hb1
  have HR := Lib.hid hR
  clear h hr hL hcall hb1 hR
  go_enter Try.func14, Try.ntmps14
  go_wp2_with fail
  refine HC.out.mono ?_
  rintro e w2 ⟨g, B, rfl, hrow, hBB, hb2⟩
  have hbb := HB.out.trans (hb2.mono HB.out.size)
  have HBB := Lib.hid hbb
  have hE : rchL B n = rchL R n := rchL_ext fun j hj => Bool.eq_iff_iff.2 ((hBB j hj).trans (HR.out j hj).symm)
  have HE := Lib.hid hE
  have hgl := (row_lt hrow g rfl).2
  have HROW := Lib.hid hrow
  obtain ⟨Z, hZ⟩ : ∃ Z, w2.heap.size = Z := ⟨_, rfl⟩
  rw [hZ] at hgl
  have HZ := Lib.hid hZ
  clear hc0 hc1 HC hbb hb2 hE hrow hBB hZ
  go_wp2_with fail
  go_loopw [5, 12] (fun x i wr => ∃ k : Nat, k ≤ n ∧ i = .int .i64 (k : Int) ∧ RRel Z w2 (rchL B k) x wr) (fun x i _ => n - (intOf i).toNat)
  case atStart => exact ⟨0, Nat.zero_le _, rfl, ⟨none, 0, rfl⟩, World.ownsRow_nil _ _ _ _, Below.refl _ _⟩
  case round =>
    obtain ⟨k, hk, rfl, hQ⟩ := hrel
    obtain ⟨xa, xc, rfl⟩ := hQ.val
    have hle := rchL_le B k
    by_cases hlt : k < n
    · have hki : (k : Int) < (n : Int) := by omega
      have hk0 : (0 : Int) ≤ (k : Int) := by omega
      have hk1 : (k : Int) + 1 < 4294967296 := by omega
      have hkw : IntKind.u32.wrap ((k : Int) + 1) = (k : Int) + 1 := by rw [IntKind.wrap_u32']; omega
      have hcB := ((row_below HROW.out (by rw [HZ.out]; exact hQ.below)).cellAt k (by omega)).trans (boolR_at B hlt)
      have HQ := Lib.hid hQ
      have hS := rchL_succ B k
      have HS := Lib.hid hS
      cases hB : B k
      · rw [hB] at hcB
        have hS2 : rchL B (k + 1) = rchL B k := by rw [hS, if_neg (by simp [hB]), List.append_nil]
        have HS2 := Lib.hid hS2
        clear hQ hS hS2 hB hkw
        go_wp2
        exact ⟨⟨k + 1, by omega, by go_num, by rw [HS2.out]; exact HQ.out⟩, by simp [intOf]; omega⟩
      · rw [hB] at hcB
        have hS2 : rchL B (k + 1) = rchL B k ++ [k + 1] := by rw [hS, if_pos hB]
        have HS2 := Lib.hid hS2
        have hrw := row_below hQ.row (below_new wr (Obj.cells #[Value.int .u32 ((k : Int) + 1)] 32))
        have hnew := cell_new1 wr (Value.int .u32 ((k : Int) + 1)) 32
        have hbase : Z ≤ (wr.alloc (Obj.cells #[Value.int .u32 ((k : Int) + 1)] 32)).heap.size := by have := hQ.below.size; rw [HZ.out] at this; simp; omega
        clear hQ hS hS2 hB
        go_wp2_with (at_builtin; refine wpList_append_own _ rfl (.tmp 18) (.tmp 22) 23 rfl Z 32 i1 (.int .u32 0) 1 4 Try.underlying23 ji jz0 jz1 jz2 rfl (by decide) _ (rchL B k).length (u32s (rchL B k)) rfl hrw ⟨wr.heap.size, 0, none⟩ 1 1 [.int .u32 ((k : Int) + 1)] rfl rfl hnew (one_cell1 _ _) (by unfold maxLen; omega) (by omega) hbase ?_; intro v6 w6 ho6 hg6 _)
        exact ⟨⟨k + 1, by omega, by go_num, by rw [HS2.out]; exact HQ.out.push HZ.out (by rw [succ_cast]; exact ho6) hg6⟩, by simp [intOf]; omega⟩
    · obtain rfl : k = n := by omega
      have HQ := Lib.hid hQ
      clear hQ
      go_wp2
      go_ret
      rw [← HE.out]
      exact ⟨xa, xc, rfl, row_mono HQ.out.row (by have := HBB.out.size; rw [HZ.out] at this; exact this), HBB.out.trans (HQ.out.below.mono (by have := HBB.out.size; rw [HZ.out] at this; exact this))⟩
set_option maxHeartbeats 2000000 in
set_option maxRecDepth 100000 in
theorem rReach_any {w : World} {a b ra : Option Addr} {n c m d rc L : Nat} {S : Nat → Sl} (rs : List Nat) (hL : rs.length = L) (h : SlotsAt w a n S) (hr : U32At w ra rs) (hn : n ≤ 65536) (hl : L ≤ 1000000) (R : Nat → Bool) (hR : ∀ j, j < n → (R j = true ↔ Rch S n rs (j + 1))) :
    Calls Try.prog 15 #[.agg #[.slice a n c, .slice b m d], .slice ra L rc] w (MadeU32 w (rchL R n)) := by
  obtain ⟨i1, ji, jz0, jz1, jz2⟩ := info_parts uInfo
  have hni : (n : Int) ≤ 65536 := by omega
  have hb1 := below_new w (Obj.cells #[Value.slice a n c, Value.slice b m d] 25)
  have hcall := marks_any (b := b) (m := m) (d := d) (c := c) (rc := rc) rs (h.below hb1) (hr.below hb1) hn (by rw [hL]; exact hl)
  rw [hL] at hcall
  obtain ⟨hc0, hc1⟩ := (DBox.new w a b n c m d).cells
  have HC := Lib.hid hcall
  have HB := Lib.hid hb1
  have HR := Lib.hid hR
  clear h hr hL hcall hb1 hR
  go_enter Try.func15, Try.ntmps15
  go_wp2_with fail
  refine HC.out.mono ?_
  rintro e w2 ⟨g, B, rfl, hrow, hBB, hb2⟩
  have hbb := HB.out.trans (hb2.mono HB.out.size)
  have HBB := Lib.hid hbb
  have hE : rchL B n = rchL R n := rchL_ext fun j hj => Bool.eq_iff_iff.2 ((hBB j hj).trans (HR.out j hj).symm)
  have HE := Lib.hid hE
  have hgl := (row_lt hrow g rfl).2
  have HROW := Lib.hid hrow
  obtain ⟨Z, hZ⟩ : ∃ Z, w2.heap.size = Z := ⟨_, rfl⟩
  rw [hZ] at hgl
  have HZ := Lib.hid hZ
  clear hc0 hc1 HC hbb hb2 hE hrow hBB hZ
  go_wp2_with fail
  go_loopw [6, 7] (fun x i wr => ∃ k : Nat, k ≤ n ∧ i = .int .i64 (k : Int) ∧ RRel Z w2 (rchL B k) x wr) (fun x i _ => n - (intOf i).toNat)
  case atStart => exact ⟨0, Nat.zero_le _, rfl, ⟨none, 0, rfl⟩, World.ownsRow_nil _ _ _ _, Below.refl _ _⟩
  case round =>
    obtain ⟨k, hk, rfl, hQ⟩ := hrel
    obtain ⟨xa, xc, rfl⟩ := hQ.val
    have hle := rchL_le B k
    by_cases hlt : k < n
    · have hki : (k : Int) < (n : Int) := by omega
      have hk0 : (0 : Int) ≤ (k : Int) := by omega
      have hk1 : (k : Int) + 1 < 4294967296 := by omega
      have hkw : IntKind.u32.wrap ((k : Int) + 1) = (k : Int) + 1 := by rw [IntKind.wrap_u32']; omega
      have hcB := ((row_below HROW.out (by rw [HZ.out]; exact hQ.below)).cellAt k (by omega)).trans (boolR_at B hlt)
      have HQ := Lib.hid hQ
      have hS := rchL_succ B k
      have HS := Lib.hid hS
      cases hB : B k
      · rw [hB] at hcB
        have hS2 : rchL B (k + 1) = rchL B k := by rw [hS, if_neg (by simp [hB]), List.append_nil]
        have HS2 := Lib.hid hS2
        clear hQ hS hS2 hB hkw
        go_wp2
        exact ⟨⟨k + 1, by omega, by go_num, by rw [HS2.out]; exact HQ.out⟩, by simp [intOf]; omega⟩
      · rw [hB] at hcB
        have hS2 : rchL B (k + 1) = rchL B k ++ [k + 1] := by rw [hS, if_pos hB]
        have HS2 := Lib.hid hS2
        have hrw := row_below hQ.row (below_new wr (Obj.cells #[Value.int .u32 ((k : Int) + 1)] 32))
        have hnew := cell_new1 wr (Value.int .u32 ((k : Int) + 1)) 32
        have hbase : Z ≤ (wr.alloc (Obj.cells #[Value.int .u32 ((k : Int) + 1)] 32)).heap.size := by have := hQ.below.size; rw [HZ.out] at this; simp; omega
        clear hQ hS hS2 hB
        go_wp2_with (at_builtin; refine wpList_append_own _ rfl (.tmp 21) (.tmp 25) 23 rfl Z 32 i1 (.int .u32 0) 1 4 Try.underlying23 ji jz0 jz1 jz2 rfl (by decide) _ (rchL B k).length (u32s (rchL B k)) rfl hrw ⟨wr.heap.size, 0, none⟩ 1 1 [.int .u32 ((k : Int) + 1)] rfl rfl hnew (one_cell1 _ _) (by unfold maxLen; omega) (by omega) hbase ?_; intro v6 w6 ho6 hg6 _)
        exact ⟨⟨k + 1, by omega, by go_num, by rw [HS2.out]; exact HQ.out.push HZ.out (by rw [succ_cast]; exact ho6) hg6⟩, by simp [intOf]; omega⟩
    · obtain rfl : k = n := by omega
      have HQ := Lib.hid hQ
      clear hQ
      go_wp2
      go_ret
      rw [← HE.out]
      exact ⟨xa, xc, rfl, row_mono HQ.out.row (by have := HBB.out.size; rw [HZ.out] at this; exact this), HBB.out.trans (HQ.out.below.mono (by have := HBB.out.size; rw [HZ.out] at this; exact this))⟩
end Go.Proofs.Yticmaddcomemhaa
