/- The reference joins two slices of bytes into a new one. Condition: the sum of the lengths is at most 2 to the 48. -/
import Derived.Test.YtdaenfhedepiaaaBase
set_option linter.unusedVariables false
namespace Go.Proofs.Ytdaenfhedepiaaa
open Go.RowKit

set_option maxHeartbeats 400000 in
theorem join_any (a c : Option Addr) (n cap m cp : Nat) (xs ys : List Int) (w : World) (h : Bs w a n cap xs) (h' : Bs w c m cp ys) (hb : n + m ≤ 281474976710656) :
    Calls Try.prog 17 #[.slice a n cap, .slice c m cp] w (Made w.heap.size w (n + m) (n + m) (xs ++ ys)) := by
  obtain ⟨i0, hi, hz0, hz1, hz2⟩ := info_parts byteInfo
  go_enter Try.func17, Try.ntmps17
  go_wp2_with (at_make; refine wpList_make_own _ rfl _ _ 22 rfl w.heap.size 5 i0 (.int .u8 0) 1 Try.underlying22 hi hz0 hz1 _ _ _ (n + m) rfl rfl (by omega) ?b2 ?b3 (Nat.le_refl _) ?_)
  case b2 => rw [hz2]; omega
  case b3 => unfold maxLen; omega
  intro w0 hown0 hgrow0
  have hb0 : Below w.heap.size w w0 := (Below.refl _ _).grown hgrow0 (Nat.le_refl _) (fun k h => by cases h)
  go_wp2
  go_loopw [5, 6] (fun out i wr => ∃ k : Nat, k ≤ n ∧ i = .int .i64 k ∧ out = .slice (some ⟨w.heap.size, 0, none⟩) k (n + m) ∧
      wr.ownsRow w.heap.size 5 1 (.slice (some ⟨w.heap.size, 0, none⟩) k (n + m)) k (U8 (xs.take k)) ∧ Below w.heap.size w wr)
    (fun _ i _ => n - (intOf i).toNat)
  case atStart => exact ⟨0, Nat.zero_le _, rfl, rfl, hown0, hb0⟩
  case round =>
    obtain ⟨k, hk, rfl, rfl, hown, hbl⟩ := hrel
    by_cases hlt : k < n
    · obtain ⟨b, off, rfl, hbb, hcell⟩ := (h.below hbl).at_ (by omega)
      have hc := hcell k hlt
      have HH := Lib.hid h
      clear hcell h
      go_wp2_with (at_builtin; refine wpList_append_fits _ rfl (.tmp 20) (.tmp 25) 22 rfl w.heap.size 5 i0 1 Try.underlying22 hi hz1 w.heap.size k (n + m) _ rfl (hown.alloc _) ⟨wr.heap.size, 0, none⟩ 1 1 _ rfl rfl (cell_new1 _ _ _) (one_cell1 _ _) (by omega) ?_; intro w2 hown2 hgrow2)
      refine ⟨⟨k + 1, by omega, by go_num, rfl, ?_, (hbl.alloc hbl.size _).grown hgrow2 (by simp; have := hbl.size; omega) (fun k hk => by cases hk; exact Nat.le_refl _)⟩, by simp [intOf]; omega⟩
      rw [← u8_snoc (by have := HH.out.len; omega)]; exact hown2
    · obtain rfl : k = n := by omega
      go_wp2
      obtain ⟨wo, rfl⟩ : ∃ wo : World, wo = wr := ⟨_, rfl⟩
      go_loopw [5, 7] (fun out i wr => ∃ j : Nat, j ≤ m ∧ i = .int .i64 j ∧ out = .slice (some ⟨w.heap.size, 0, none⟩) (k + j) (k + m) ∧
          wr.ownsRow w.heap.size 5 1 (.slice (some ⟨w.heap.size, 0, none⟩) (k + j) (k + m)) (k + j) (U8 (xs ++ ys.take j)) ∧ Below w.heap.size w wr)
        (fun _ i _ => m - (intOf i).toNat)
      case atStart => exact ⟨0, Nat.zero_le _, rfl, rfl, by rw [List.take_of_length_le (by rw [h.len]; exact Nat.le_refl _)] at hown; simpa using hown, hbl⟩
      case round =>
        clear hown hbl
        obtain ⟨j, hj, rfl, rfl, hown, hbl⟩ := hrel
        by_cases hlt2 : j < m
        · obtain ⟨b, off, rfl, hbb, hcell⟩ := (h'.below hbl).at_ (by omega)
          have hc := hcell j hlt2
          have HH := Lib.hid h'
          clear hcell h'
          go_wp2_with (at_builtin; refine wpList_append_fits _ rfl (.tmp 33) (.tmp 38) 22 rfl w.heap.size 5 i0 1 Try.underlying22 hi hz1 w.heap.size (k + j) (k + m) _ rfl (hown.alloc _) ⟨wr.heap.size, 0, none⟩ 1 1 _ rfl rfl (cell_new1 _ _ _) (one_cell1 _ _) (by omega) ?_; intro w2 hown2 hgrow2)
          refine ⟨⟨j + 1, by omega, by go_num, rfl, ?_, (hbl.alloc hbl.size _).grown hgrow2 (by simp; have := hbl.size; omega) (fun k hk => by cases hk; exact Nat.le_refl _)⟩, by simp [intOf]; omega⟩
          have e := u8_snoc (zs := ys) (k := j) (by have := HH.out.len; omega)
          rw [u8_app, ← e, ← List.append_assoc, ← u8_app]; exact hown2
        · obtain rfl : j = m := by omega
          go_wp2
          go_ret
          rw [List.take_of_length_le (by rw [h'.len]; exact Nat.le_refl _)] at hown
          exact ⟨rfl, hown, hbl⟩
end Go.Proofs.Ytdaenfhedepiaaa
