/- The reference writes the last n bytes of a 64-bit number. Condition: n is at most 2 to the 48. -/
import Derived.Test.YtdaenfhedepiaaaBase
import Derived.Test.YtdaenfhedepiaaaCodes
set_option linter.unusedVariables false
namespace Go.Proofs.Ytdaenfhedepiaaa
open Go.RowKit

set_option maxHeartbeats 400000 in
theorem word_any (u : Int) (n : Nat) (r : Int) (w : World) (hu0 : 0 ≤ u) (hu1 : u < 18446744073709551616) (hr : r = (n : Int)) (hn : n ≤ 281474976710656) :
    Calls Try.prog 30 #[.int .u64 u, .int .i64 r] w (Made w.heap.size w n n (be n u)) := by
  subst hr
  obtain ⟨i0, hi, hz0, hz1, hz2⟩ := info_parts byteInfo
  go_enter Try.func30, Try.ntmps30
  go_wp2_with (at_make; refine wpList_make_full _ rfl _ _ 22 rfl w.heap.size 5 i0 (.int .u8 0) 1 Try.underlying22 hi hz0 hz1 _ _ _ _ n rfl rfl rfl rfl ?b2 ?b3 (Nat.le_refl _) ?_)
  case b2 => rw [hz2]; omega
  case b3 => unfold maxLen; omega
  intro w0 hown0 hgrow0
  have hown1 : w0.ownsRow w.heap.size 5 1 (.slice (some ⟨w.heap.size, 0, none⟩) n n) n (U8 (List.replicate n 0)) := by
    have e : (madeCells #[Value.int .u8 0] n).toList = U8 (List.replicate n 0) := by
      rw [toList_madeCells_one]; simp [U8]
    rw [e] at hown0; exact hown0
  clear hown0
  have hb0 : Below w.heap.size w w0 := (Below.refl _ _).grown hgrow0 (Nat.le_refl _) (fun k h => by cases h)
  go_wp2
  go_loopw [0, 6] (fun x i wr => ∃ (k : Nat) (X : Int) (T : List Int), k ≤ n ∧ x = .int .u64 X ∧ 0 ≤ X ∧ X < 18446744073709551616 ∧ i = .int .i64 ((n : Int) - 1 - (k : Int)) ∧ be (n - k) X ++ T = be n u ∧
      wr.ownsRow w.heap.size 5 1 (.slice (some ⟨w.heap.size, 0, none⟩) n n) n (U8 (List.replicate (n - k) 0 ++ T)) ∧ Below w.heap.size w wr)
    (fun _ i _ => (intOf i + 1).toNat)
  case atStart => exact ⟨0, u, [], by omega, rfl, hu0, hu1, by simp, by simp, by simpa using hown1, hb0⟩
  case round =>
    obtain ⟨k, X, T, hk, rfl, hX0, hX1, rfl, hv, hown, hbl⟩ := hrel
    have HV := Lib.hid hv
    clear hv hown1
    by_cases hlt : k < n
    · obtain ⟨j, rfl, hj⟩ : ∃ j : Nat, k = n - 1 - j ∧ j ≤ n - 1 := ⟨n - 1 - k, by omega, by omega⟩
      have e : (n : Int) - 1 - ((n - 1 - j : Nat) : Int) = (j : Int) := by omega
      rw [e]
      clear e
      have hjn : j < n := by omega
      have hl := hown.1
      have hf := hown.frozenAt j
      have hcl : wr.cell? ⟨w.heap.size, j, none⟩ = some ((U8 (List.replicate (n - (n - 1 - j)) 0 ++ T))[j]'(by omega)) := by
        rw [hown.cellAt j (by omega), List.getElem?_eq_getElem (by omega)]
      generalize (U8 (List.replicate (n - (n - 1 - j)) 0 ++ T))[j]'(by omega) = c0 at hcl
      clear hl
      go_wp2
      have e1 : n - (n - 1 - j) = j + 1 := by omega
      have e2 : n - (n - j) = j := by omega
      have hs := (hown.stored j (Value.int IntKind.u8 (X % 256))).1
      rw [e1, u8_set, be_set] at hs
      have HV2 := HV.out
      rw [e1] at HV2
      refine ⟨⟨n - j, X / 256, [X % 256] ++ T, by omega, rfl, by omega, by omega, ?_, ?_, ?_, hbl.setCell (Nat.le_refl _) _⟩, by simp [intOf]⟩
      · have : (j : Int) - 1 = (n : Int) - 1 - ((n - j : Nat) : Int) := by omega
        rw [this]
      · rw [e2, ← HV2, be]; simp
      · rw [e2]; exact hs
    · obtain rfl : k = n := by omega
      go_wp2
      go_ret
      have e : T = be k u := by rw [← HV.out]; simp [be]
      subst e
      rw [Nat.sub_self] at hown
      exact ⟨rfl, hown, hbl⟩
end Go.Proofs.Ytdaenfhedepiaaa
