/- The reference's lists of entries: Rank, Get, Select and the nearest entries; plain, and their walks. The reference's nearest entries. -/
import Derived.Test.YtcdfgnbdbmmcpaaEns
import Derived.Test.YtcdfgnbdbmmcpaaSlotsAid
import Derived.Deep.DeepCutAuto
set_option linter.unusedVariables false
set_option linter.unusedSimpArgs false
namespace Go.Proofs.Ytcdfgnbdbmmcpaa
open Go.RowKit
/-! ### plain -/
def rankE (l : List En) (k : Int) : Nat := l.countP fun e => decide (e.key < k)
def getE (l : List En) (k : Int) : Option En := l.find? fun e => decide (e.key = k)
def selE (l : List En) (i : Int) : Option En := if 0 ≤ i then l[i.toNat]? else none
def floorE (l : List En) (k : Int) : Option En := if (getE l k).isSome then selE l (rankE l k) else selE l ((rankE l k : Int) - 1)
def ceilE (l : List En) (k : Int) : Option En := selE l (rankE l k)
def belowE (l : List En) (k : Int) : Option En := selE l ((rankE l k : Int) - 1)
def aboveE (l : List En) (k : Int) : Option En := if (getE l k).isSome then selE l ((rankE l k : Int) + 1) else selE l (rankE l k)
/-- the cells of an entry, of none zeros -/
def enA (o : Option En) : Array Value := #[.int .i64 (o.elim 0 (·.key)), .int .i64 (o.elim 0 (·.val))]
theorem rankE_le (l : List En) (k : Int) : rankE l k ≤ l.length := List.countP_le_length
theorem rankE_succ {l : List En} {j : Nat} {e : En} (h : l[j]? = some e) (k : Int) : rankE (l.take (j + 1)) k = rankE (l.take j) k + (if e.key < k then 1 else 0) := by
  obtain ⟨hj, he⟩ := List.getElem?_eq_some_iff.1 h
  unfold rankE
  rw [List.take_succ_eq_append_getElem hj, List.countP_append, he]
  congr 1
  by_cases hk : e.key < k <;> simp [hk]
theorem getE_step {l : List En} {j : Nat} {e : En} (h : l[j]? = some e) (k : Int) : getE (l.drop j) k = if e.key = k then some e else getE (l.drop (j + 1)) k := by
  obtain ⟨hj, he⟩ := List.getElem?_eq_some_iff.1 h
  unfold getE
  rw [List.drop_eq_getElem_cons hj, he, List.find?_cons]
  by_cases hk : e.key = k <;> simp [hk]
/-! ### walks -/
theorem below_newL (w : World) (o : Obj) : Below w.heap.size w (w.alloc o) := (Below.refl _ _).alloc (Nat.le_refl _) _
theorem EnsAt.at {w : World} {a : Option Addr} {l : List En} {j : Nat} {e : En} (h : EnsAt w a l) (he : l[j]? = some e) : ∃ b off, a = some ⟨b, off, none⟩ ∧ b < w.heap.size ∧ w.cell? ⟨b, off + j * 2, none⟩ = some (.int .i64 e.key) ∧ w.cell? ⟨b, off + j * 2 + 1, none⟩ = some (.int .i64 e.val) := h.cell j e he
set_option maxHeartbeats 1000000 in
set_option maxRecDepth 100000 in
theorem rank_any {w : World} {a : Option Addr} {n c : Nat} {l : List En} (k : Int) (h : EnsAt w a l) (hn : l.length = n) (hl : n ≤ 1000000) :
    Calls Try.prog 13 #[.slice a n c, .int .i64 k] w fun e w' => e = .returned (.int .i64 (rankE l k : Int)) ∧ w' = w := by
  have HE := Lib.hid h
  have HN := Lib.hid hn
  have hni : (n : Int) ≤ 1000000 := by omega
  have HL := Lib.hid hl
  clear h hn hl
  go_enter Try.func13, Try.ntmps13
  go_wp2_with fail
  go_loopw [5, 6] (fun x i wr => ∃ j : Nat, i = .int .i64 (j : Int) ∧ x = .int .i64 (rankE (l.take j) k : Int) ∧ j ≤ n ∧ wr = w) (fun _ i _ => n - (intOf i).toNat)
  case atStart => exact ⟨0, rfl, rfl, Nat.zero_le _, rfl⟩
  case round =>
    obtain ⟨j, rfl, rfl, hj, rfl⟩ := hrel
    have HJ := Lib.hid hj
    have hj0 : (0 : Int) ≤ (j : Int) := by omega
    have hrl := rankE_le (l.take j) k
    rw [List.length_take] at hrl
    have hrb : rankE (l.take j) k ≤ 1000000 := by have := HL.out; omega
    by_cases hlt : j < n
    · have hji : (j : Int) < (n : Int) := by omega
      obtain ⟨e, he⟩ : ∃ e, l[j]? = some e := ⟨_, List.getElem?_eq_getElem (by have := HN.out; omega)⟩
      obtain ⟨b, off, rfl, hb, c0, c1⟩ := HE.out.at he
      have hs := rankE_succ he k
      obtain ⟨R, hR⟩ : ∃ R, rankE (l.take j) k = R := ⟨_, rfl⟩
      rw [hR] at hs hrb ⊢
      have hwR : IntKind.i64.wrap ((R : Int) + 1) = ((R + 1 : Nat) : Int) := by rw [IntKind.wrap_i64]; omega
      have HS := Lib.hid hs
      have HLT := Lib.hid hlt
      by_cases hk : e.key < k
      · have hkd : decide (e.key < k) = true := decide_eq_true hk
        have HK : Hid (rankE (l.take (j + 1)) k = R + 1) := by show _ = _; rw [HS.out, if_pos hk]
        clear hj hlt hrl hrb hs hR he hk hb c1
        go_wp2_with fail
        exact ⟨⟨j + 1, by go_num, by rw [HK.out]; go_num, by have := HLT.out; omega, trivial⟩, by have := HLT.out; simp [intOf]; omega⟩
      · have hkd : decide (e.key < k) = false := decide_eq_false hk
        have HK : Hid (rankE (l.take (j + 1)) k = R) := by show _ = _; rw [HS.out, if_neg hk]; rfl
        clear hj hlt hrl hrb hs hR he hk hb c1 hwR
        go_wp2_with fail
        exact ⟨⟨j + 1, by go_num, by rw [HK.out], by have := HLT.out; omega, trivial⟩, by have := HLT.out; simp [intOf]; omega⟩
    · have hji : ¬ (j : Int) < (n : Int) := by omega
      have HK : Hid (rankE (l.take j) k = rankE l k) := by show _ = _; rw [List.take_of_length_le (by have := HN.out; omega)]
      clear hj hlt hrl hrb
      go_wp2_with fail
      go_ret
      exact ⟨by rw [← HK.out]; rfl, rfl⟩
set_option maxHeartbeats 1000000 in
set_option maxRecDepth 100000 in
theorem select_any {w : World} {a : Option Addr} {n c : Nat} {l : List En} (i : Int) (h : EnsAt w a l) (hn : l.length = n) (hl : n ≤ 1000000) (hi : -9223372036854775808 ≤ i ∧ i ≤ 9223372036854775807) :
    Calls Try.prog 16 #[.slice a n c, .int .i64 i] w (Calm w (.tuple #[.agg (enA (selE l i)), .bool (selE l i).isSome])) := by
  have hin : (Try.prog.info? 41).map (·.size) = some 2 := by kernel_rfl
  have HIN := Lib.hid hin
  have HU : Hid _ := Lib.hid Try.underlying41
  have hb1 := below_newL w (Obj.cells #[Value.int .i64 0, .int .i64 0] 41)
  have hr1 := heap_alloc_new w (Obj.cells #[Value.int .i64 0, .int .i64 0] 41)
  have HE := Lib.hid h
  have HE1 := Lib.hid (h.below hb1)
  have HN := Lib.hid hn
  have hni : (n : Int) ≤ 1000000 := by omega
  have HFIN : Hid (∀ (x y : Int), Below w.heap.size w (((w.alloc (Obj.cells #[Value.int .i64 0, .int .i64 0] 41)).setCell ⟨w.heap.size, 0, none⟩ (.int .i64 x)).setCell ⟨w.heap.size, 1, none⟩ (.int .i64 y)) ∧
      (((w.alloc (Obj.cells #[Value.int .i64 0, .int .i64 0] 41)).setCell ⟨w.heap.size, 0, none⟩ (.int .i64 x)).setCell ⟨w.heap.size, 1, none⟩ (.int .i64 y)).heap[w.heap.size]? = some (.cells #[.int .i64 x, .int .i64 y] 41 (0, 0))) := fun x y => by
    refine ⟨(hb1.setCell (Nat.le_refl _) _).setCell (Nat.le_refl _) _, ?_⟩
    rw [heap_setCell_same _ _ 1 _ _ _ (heap_setCell_same _ _ 0 _ _ _ hr1)]; rfl
  obtain ⟨r0, r1⟩ : (w.alloc (Obj.cells #[Value.int .i64 0, .int .i64 0] 41)).cell? ⟨w.heap.size, 0, none⟩ = some (.int .i64 0) ∧ (w.alloc (Obj.cells #[Value.int .i64 0, .int .i64 0] 41)).cell? ⟨w.heap.size, 1, none⟩ = some (.int .i64 0) := by
    constructor <;> (rw [cell_of_row _ _ _ _ _ _ hr1]; rfl)
  have hf0 := frozen_of_row _ _ 0 _ _ hr1
  have hf1 := frozen_of_row _ _ 1 _ _ hr1
  clear hin hb1 hr1 h hn hl
  by_cases h0 : 0 ≤ i
  · obtain ⟨j, rfl⟩ := Int.eq_ofNat_of_zero_le h0
    have hlt0 : decide ((j : Int) < 0) = false := decide_eq_false (by omega)
    by_cases hj : j < n
    · have hji : (j : Int) < (n : Int) := by omega
      have hge : decide ((n : Int) ≤ (j : Int)) = false := decide_eq_false (by omega)
      have hge2 : decide (n ≤ j) = false := decide_eq_false (by omega)
      have hge3 : ¬ n ≤ j := by omega
      obtain ⟨e, he⟩ : ∃ e, l[j]? = some e := ⟨_, List.getElem?_eq_getElem (by have := HN.out; omega)⟩
      obtain ⟨b, off, rfl, hb, c0, c1⟩ := HE1.out.at he
      have HS : Hid (selE l (j : Int) = some e) := by show _ = _; unfold selE; rw [if_pos h0, Int.toNat_natCast, he]
      have hbn : b < w.heap.size := by
        obtain ⟨b', off', h1, h2, _⟩ := HE.out.at he
        simp at h1
        rw [h1.1]; exact h2
      have hne : b ≠ w.heap.size := Nat.ne_of_lt hbn
      clear hj hi he hb hbn HE HE1
      go_enter Try.func16, Try.ntmps16
      go_upto_region 1 with fail
      generalize w.alloc (Obj.cells #[Value.int .i64 0, .int .i64 0] 41) = w1 at HFIN r0 r1 hf0 hf1 c0 c1 ⊢
      go_wp2_with fail
      refine bodyPost_ret (results_row_tmp rfl _ _ w.heap.size 41 #[.int .i64 e.key, .int .i64 e.val] (0, 0) _ rfl (HFIN.out e.key e.val).2 HU.out rfl HIN.out) rfl ?_
      exact ⟨by rw [HS.out]; rfl, (HFIN.out _ _).1⟩
    · have hji : ¬ (j : Int) < (n : Int) := by omega
      have hge : decide ((n : Int) ≤ (j : Int)) = true := decide_eq_true (by omega)
      have hge2 : decide (n ≤ j) = true := decide_eq_true (by omega)
      have HS : Hid (selE l (j : Int) = none) := by show _ = _; unfold selE; rw [if_pos h0, Int.toNat_natCast]; exact List.getElem?_eq_none (by have := HN.out; omega)
      clear hj hi HE HE1
      go_enter Try.func16, Try.ntmps16
      go_upto_region 1 with fail
      generalize w.alloc (Obj.cells #[Value.int .i64 0, .int .i64 0] 41) = w1 at HFIN r0 r1 hf0 hf1 ⊢
      go_wp2_with fail
      refine bodyPost_ret (results_row_tmp rfl _ _ w.heap.size 41 #[.int .i64 0, .int .i64 0] (0, 0) _ rfl (HFIN.out 0 0).2 HU.out rfl HIN.out) rfl ?_
      exact ⟨by rw [HS.out]; rfl, (HFIN.out _ _).1⟩
  · have hlt0 : decide (i < 0) = true := decide_eq_true (by omega)
    have HS : Hid (selE l i = none) := by show _ = _; unfold selE; rw [if_neg h0]
    clear h0 hi HE HE1
    go_enter Try.func16, Try.ntmps16
    go_upto_region 1 with fail
    generalize w.alloc (Obj.cells #[Value.int .i64 0, .int .i64 0] 41) = w1 at HFIN r0 r1 hf0 hf1 ⊢
    go_wp2_with fail
    refine bodyPost_ret (results_row_tmp rfl _ _ w.heap.size 41 #[.int .i64 0, .int .i64 0] (0, 0) _ rfl (HFIN.out 0 0).2 HU.out rfl HIN.out) rfl ?_
    exact ⟨by rw [HS.out]; rfl, (HFIN.out _ _).1⟩
end Go.Proofs.Ytcdfgnbdbmmcpaa
set_option linter.unusedVariables false
set_option linter.unusedSimpArgs false
namespace Go.Proofs.Ytcdfgnbdbmmcpaa
open Go.RowKit
theorem two_ofE {w : World} {g : Nat} {x y : Int} {ty : TypeId} (h : w.heap[g]? = some (.cells #[.int .i64 x, .int .i64 y] ty (0, 0))) : w.cell? ⟨g, 0, none⟩ = some (.int .i64 x) ∧ w.cell? ⟨g, 1, none⟩ = some (.int .i64 y) := by
  constructor <;> (rw [cell_of_row _ _ _ _ _ _ h]; rfl)
/-- the result's variable, written behind calls that made memory -/
theorem ret_box {w wx : World} {ty : TypeId} (hb : Below (w.alloc (Obj.cells #[Value.int .i64 0, .int .i64 0] ty)).heap.size (w.alloc (Obj.cells #[Value.int .i64 0, .int .i64 0] ty)) wx) :
    wx.heap[w.heap.size]? = some (.cells #[.int .i64 0, .int .i64 0] ty (0, 0)) ∧
    ∀ x y : Int, Below w.heap.size w ((wx.setCell ⟨w.heap.size, 0, none⟩ (.int .i64 x)).setCell ⟨w.heap.size, 1, none⟩ (.int .i64 y)) ∧
      ((wx.setCell ⟨w.heap.size, 0, none⟩ (.int .i64 x)).setCell ⟨w.heap.size, 1, none⟩ (.int .i64 y)).heap[w.heap.size]? = some (.cells #[.int .i64 x, .int .i64 y] ty (0, 0)) := by
  have hr : wx.heap[w.heap.size]? = some (.cells #[.int .i64 0, .int .i64 0] ty (0, 0)) := (hb.block _ (by simp)).trans (heap_alloc_new w _)
  have h0 : Below w.heap.size w wx := (below_newL w _).trans (hb.mono (by simp))
  refine ⟨hr, fun x y => ⟨(h0.setCell (Nat.le_refl _) _).setCell (Nat.le_refl _) _, ?_⟩⟩
  rw [heap_setCell_same _ _ 1 _ _ _ (heap_setCell_same _ _ 0 _ _ _ hr)]; rfl
theorem isSome_false {o : Option En} (h : o.isSome = false) : o = none := by cases o; rfl; cases h
end Go.Proofs.Ytcdfgnbdbmmcpaa
