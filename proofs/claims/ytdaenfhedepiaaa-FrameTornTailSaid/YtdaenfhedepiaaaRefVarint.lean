/- The reference writes the varint of every 64-bit number. -/
import Derived.Test.YtdaenfhedepiaaaBase
import Derived.Test.YtdaenfhedepiaaaCodes
set_option linter.unusedVariables false
namespace Go.Proofs.Ytdaenfhedepiaaa
open Go.RowKit

set_option maxHeartbeats 400000 in
theorem varint_any (u : Int) (w : World) (hu0 : 0 ≤ u) (hu1 : u < 18446744073709551616) :
    Calls Try.prog 29 #[.int .u64 u] w (MadeAny w (vs 9 u)) := by
  obtain ⟨i0, hi, hz0, hz1, hz2⟩ := info_parts byteInfo
  go_enter Try.func29, Try.ntmps29
  go_wp2
  go_loopw [0, 3] (fun x out wr => ∃ (k : Nat) (X : Int) (pre : List Int), k ≤ 9 ∧ x = .int .u64 X ∧ Rest k X ∧ pre.length = k ∧ pre ++ vs (9 - k) X = vs 9 u ∧
      wr.ownsRow w.heap.size 5 1 out k (U8 pre) ∧ Below w.heap.size w wr)
    (fun x _ _ => (intOf x).toNat)
  case atStart => exact ⟨0, u, [], by omega, rfl, Rest.zero hu0 hu1, rfl, rfl, World.ownsRow_nil _ _ _ _, Below.refl _ _⟩
  case round =>
    obtain ⟨k, X, pre, hk, rfl, hR, hl, hv, hown, hbl⟩ := hrel
    obtain ⟨hX0, hX1⟩ := hR.le
    have HL := Lib.hid hl
    have HV := Lib.hid hv
    have HR := Lib.hid hR
    clear hl hv hR
    by_cases hX : 127 < X
    · have hk9 := HR.out.big hX
      go_wp2_with (at_builtin; refine wpList_append_own _ rfl (.tmp 6) (.tmp 11) 22 rfl w.heap.size 5 i0 _ 1 1 Try.underlying22 hi hz0 hz1 hz2 rfl (by decide) _ k _ rfl (hown.alloc _) ⟨wr.heap.size, 0, none⟩ 1 1 _ rfl rfl (cell_new1 _ _ _) (one_cell1 _ _) (by unfold maxLen; omega) (by omega) (by have := hbl.size; simp; omega) ?_; intro v2 w2 hown2 hgrow2 _)
      have hv2 := vs_big (8 - k) X hX
      have e9 : 8 - k + 1 = 9 - k := by omega
      have e10 : 9 - (k + 1) = 8 - k := by omega
      rw [e9] at hv2
      have hg : (wr.alloc (Obj.cells #[Value.int IntKind.u8 (X % 128 + 128)] 5)).grownBy w2 u3.ownBlock := hgrow2
      refine ⟨⟨k + 1, X / 128, pre ++ [X % 128 + 128], by omega, rfl, HR.out.step, by simp [HL.out], ?_, ?_, (hbl.alloc hbl.size _).grown hg (by simp; have := hbl.size; omega) (own_base hown)⟩, by simp [intOf]; omega⟩
      · rw [← HV.out, hv2, e10]; simp
      · rw [u8_app]; exact hown2
    · go_wp2_with (at_builtin; refine wpList_append_own _ rfl (.tmp 15) (.tmp 18) 22 rfl w.heap.size 5 i0 _ 1 1 Try.underlying22 hi hz0 hz1 hz2 rfl (by decide) _ k _ rfl (hown.alloc _) ⟨wr.heap.size, 0, none⟩ 1 1 _ rfl rfl (cell_new1 _ _ _) (one_cell1 _ _) (by unfold maxLen; omega) (by omega) (by have := hbl.size; simp; omega) ?_; intro v2 w2 hown2 hgrow2 _)
      go_ret
      have hv2 := vs_small (9 - k) X hX
      have HV2 := HV.out
      rw [hv2] at HV2
      have hln : (vs 9 u).length = k + 1 := by rw [← HV2]; simp [HL.out]
      have hg : (wr.alloc (Obj.cells #[Value.int IntKind.u8 X] 5)).grownBy w2 u3.ownBlock := hgrow2
      obtain ⟨g, cap, rfl⟩ := own_form hown2 (by omega)
      refine ⟨g, cap, ?_, ?_, (hbl.alloc hbl.size _).grown hg (by simp; have := hbl.size; omega) (own_base hown)⟩
      · rw [hln]; rfl
      · rw [hln, ← HV2, u8_app]; exact hown2
end Go.Proofs.Ytdaenfhedepiaaa
