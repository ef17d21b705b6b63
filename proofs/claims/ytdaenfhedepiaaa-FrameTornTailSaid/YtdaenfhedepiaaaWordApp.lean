/- AppendUvarint gives a new slice with the bytes of b and the varint of u, for every b and u. Condition: b is shorter than 2 to the 48 by ten. -/
import Derived.Test.YtdaenfhedepiaaaBase
import Derived.Test.YtdaenfhedepiaaaCodes
set_option linter.unusedVariables false
namespace Go.Proofs.Ytdaenfhedepiaaa
open Go.RowKit

theorem copy_any (a : Option Addr) (n cap room : Nat) (r : Int) (zs : List Int) (w : World) (B : Nat) (hB : B ≤ w.heap.size) (h : Bs w a n cap zs) (hr : r = (room : Int)) (hb : n + room ≤ 281474976710656) :
    Calls Try.prog 35 #[.slice a n cap, .int .i64 r] w (Made B w n (n + room) zs) := by
  subst hr
  obtain ⟨i0, hi, hz0, hz1, hz2⟩ := info_parts byteInfo
  go_enter Try.func35, Try.ntmps35
  go_wp2_with (at_make; refine wpList_make_own _ rfl _ _ 22 rfl B 5 i0 (.int .u8 0) 1 Try.underlying22 hi hz0 hz1 _ _ _ (n + room) rfl rfl (by omega) ?b2 ?b3 hB ?_)
  case b2 => rw [hz2]; omega
  case b3 => unfold maxLen; omega
  intro w0 hown0 hgrow0
  have hb0 : Below w.heap.size w w0 := (Below.refl _ _).grown hgrow0 (Nat.le_refl _) (fun k h => by cases h)
  have h0 : Bs w0 a n cap zs := h.below hb0
  go_wp2_with (at_builtin; refine wpList_append_fits_any _ rfl (.tmp 11) (.tmp 12) 22 rfl B 5 i0 1 Try.underlying22 hi hz1 w.heap.size 0 (n + room) _ rfl hown0 a n cap (U8 zs) rfl (by rw [u8_len, h.len]; omega) h.2.2.1 h0.news (u8_one _) (by omega) ?_; intro w1 hown1 hgrow1)
  go_ret
  simp only [Nat.zero_add, List.nil_append] at hown1 ⊢
  exact ⟨rfl, hown1, hb0.grown hgrow1 hb0.size (fun k hk => by cases hk; exact Nat.le_refl _)⟩

set_option maxHeartbeats 400000 in
theorem appendUvarint_any (a : Option Addr) (n cap : Nat) (zs : List Int) (u : Int) (w : World) (h : Bs w a n cap zs) (hu0 : 0 ≤ u) (hu1 : u < 18446744073709551616) (hb : n + 10 ≤ 281474976710656) :
    Calls Try.prog 26 #[.slice a n cap, .int .u64 u] w (Made w.heap.size w (n + (vs 9 u).length) (n + 10) (zs ++ vs 9 u)) := by
  obtain ⟨i0, hi, hz0, hz1, hz2⟩ := info_parts byteInfo
  go_enter Try.func26, Try.ntmps26
  go_wp2_with (go_at_call 35; refine (copy_any a n cap 10 10 zs _ w.heap.size (Nat.le_refl _) h rfl hb).mono ?_; rintro e w1 ⟨rfl, hown1, hb1⟩)
  go_loopw [1, 5] (fun x out wr => ∃ (k : Nat) (X : Int) (pre : List Int), k ≤ 9 ∧ x = .int .u64 X ∧ Rest k X ∧ pre.length = k ∧ pre ++ vs (9 - k) X = vs 9 u ∧ out = .slice (some ⟨w.heap.size, 0, none⟩) (n + k) (n + 10) ∧
      wr.ownsRow w.heap.size 5 1 (.slice (some ⟨w.heap.size, 0, none⟩) (n + k) (n + 10)) (n + k) (U8 (zs ++ pre)) ∧ Below w.heap.size w wr)
    (fun x _ _ => (intOf x).toNat)
  case atStart => exact ⟨0, u, [], by omega, rfl, Rest.zero hu0 hu1, rfl, rfl, rfl, by simpa using hown1, hb1⟩
  case round =>
    obtain ⟨k, X, pre, hk, rfl, hR, hl, hv, rfl, hown, hbl⟩ := hrel
    obtain ⟨hX0, hX1⟩ := hR.le
    have HL := Lib.hid hl
    have HV := Lib.hid hv
    have HR := Lib.hid hR
    clear hl hv hR
    by_cases hX : 127 < X
    · have hk9 := HR.out.big hX
      go_wp2_with (at_builtin; refine wpList_append_fits _ rfl (.tmp 10) (.tmp 14) 22 rfl w.heap.size 5 i0 1 Try.underlying22 hi hz1 w.heap.size (n + k) (n + 10) _ rfl (hown.alloc _) ⟨wr.heap.size, 0, none⟩ 1 1 _ rfl rfl (cell_new1 _ _ _) (one_cell1 _ _) (by omega) ?_; intro w2 hown2 hgrow2)
      have hv2 := vs_big (8 - k) X hX
      have e9 : 8 - k + 1 = 9 - k := by omega
      have e10 : 9 - (k + 1) = 8 - k := by omega
      rw [e9] at hv2
      have ho := or8_128 (X % 256) (by omega) (by omega)
      have ho2 : X % 256 % 128 = X % 128 := by omega
      rw [ho, ho2] at hown2
      refine ⟨⟨k + 1, X / 128, pre ++ [X % 128 + 128], by omega, rfl, HR.out.step, by simp [HL.out], ?_, rfl, ?_, (hbl.alloc hbl.size _).grown hgrow2 (by simp; have := hbl.size; omega) (fun k hk => by cases hk; exact Nat.le_refl _)⟩, by simp [intOf]; omega⟩
      · rw [← HV.out, hv2, e10]; simp
      · rw [← List.append_assoc, u8_app]; exact hown2
    · go_wp2_with (at_builtin; refine wpList_append_fits _ rfl (.tmp 18) (.tmp 21) 22 rfl w.heap.size 5 i0 1 Try.underlying22 hi hz1 w.heap.size (n + k) (n + 10) _ rfl (hown.alloc _) ⟨wr.heap.size, 0, none⟩ 1 1 _ rfl rfl (cell_new1 _ _ _) (one_cell1 _ _) (by omega) ?_; intro w2 hown2 hgrow2)
      go_ret
      have hv2 := vs_small (9 - k) X hX
      have HV2 := HV.out
      rw [hv2] at HV2
      have hln : (vs 9 u).length = k + 1 := by rw [← HV2]; simp [HL.out]
      refine ⟨?_, ?_, (hbl.alloc hbl.size _).grown hgrow2 (by simp; have := hbl.size; omega) (fun k hk => by cases hk; exact Nat.le_refl _)⟩
      · rw [hln]; rfl
      · rw [hln, ← HV2, ← List.append_assoc, u8_app]; exact hown2
end Go.Proofs.Ytdaenfhedepiaaa
