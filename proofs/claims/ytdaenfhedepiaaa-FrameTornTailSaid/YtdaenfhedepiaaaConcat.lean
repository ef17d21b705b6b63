/- slices.Concat at []byte: a new slice with the bytes of all parts, one after the other; and slices.Grow of the nil slice. Conditions: there is at least one byte, and at most 2 to the 48. -/
import Derived.Test.YtdaenfhedepiaaaFrameCon
import Derived.Lib.AppendZeros
set_option linter.unusedVariables false
namespace Go.Proofs.Ytdaenfhedepiaaa
open Go.RowKit

/-- the call returned a slice of the call's own, empty, with room for n -/
def Room (w : World) (n : Nat) (e : Ending) (w' : World) : Prop :=
  ∃ g cap, e = .returned (.slice (some ⟨g, 0, none⟩) 0 cap) ∧ n ≤ cap ∧ w'.ownsRow w.heap.size 5 1 (.slice (some ⟨g, 0, none⟩) 0 cap) 0 (U8 []) ∧ Below w.heap.size w w'

theorem zeros_size (v : Value) (n : Nat) : (Builtin.zeroCells #[v] n).size = n := by simp [Builtin.zeroCells]
set_option maxHeartbeats 1000000 in
theorem grow_nil (n : Nat) (w : World) (h0 : 0 < n) (hn : n ≤ 281474976710656) :
    Calls Try.prog 36 #[.slice none 0 0, .int .i64 n] w (Room w n) := by
  obtain ⟨i0, hi, hz0, hz1, hz2⟩ := info_parts byteInfo
  have hr := fun w => Lib.run_append_nil_zeros (P := Try.prog) w 22 3 22 5 i0 (.int .u8 0) .i64 .i64 Try.underlying22 Try.underlying3 hi hz0 n h0 (by omega) (by omega) (by rw [hz2]; omega)
  have HR := Lib.hid hr
  have hni : (0 : Int) < (n : Int) := by omega
  clear hr
  go_enter Try.func36, Try.ntmps36
  go_wp2_with (at_builtin; refine Lib.wpList_append_run _ rfl (.tmp 20) (.tmp 21) 22 3 rfl _ _ rfl rfl _ _ (HR.out _) ?_)
  go_ret
  have hge := grownCap_ge w n 0 5
  have hcm : grownCap w n 0 5 ≤ maxLen := grownCap_le_maxLen w n 0 5 (by unfold maxLen; omega)
  refine ⟨w.heap.size, _, rfl, hge, ?_, ((Below.refl _ _).alloc (Nat.le_refl _) _).drew⟩
  exact (World.ownsRow_made w _ _ (Nat.le_refl _) hcm (by simp [zeros_size]; omega)).drew

/-! ### the parts -/
def tot (N : Nat → Nat) : Nat → Nat
  | 0 => 0
  | k + 1 => tot N k + N k
def cat (Z : Nat → List Int) : Nat → List Int
  | 0 => []
  | k + 1 => cat Z k ++ Z k
theorem tot_le (N : Nat → Nat) {k m : Nat} (h : k ≤ m) : tot N k ≤ tot N m := by
  induction m with
  | zero => obtain rfl : k = 0 := by omega
            exact Nat.le_refl _
  | succ m ih =>
    rcases Nat.lt_or_ge m k with h1 | h1
    · obtain rfl : k = m + 1 := by omega
      exact Nat.le_refl _
    · have := ih h1
      show tot N k ≤ tot N m + N m
      omega
theorem cat_byt {Z : Nat → List Int} {m : Nat} (h : ∀ j, j < m → Byt (Z j)) : ∀ k, k ≤ m → Byt (cat Z k) := by
  intro k
  induction k with
  | zero => intro _; exact Byt.nil
  | succ k ih => intro hk; exact (ih (by omega)).app (h k (by omega))
def SizeRel (N : Nat → Nat) (m : Nat) (x i : Value) : Prop := ∃ k : Nat, k ≤ m ∧ i = .int .i64 k ∧ x = .int .i64 ((tot N k : Nat) : Int)
def CatRel (w : World) (N : Nat → Nat) (Z : Nat → List Int) (m g cap : Nat) (x i : Value) (wr : World) : Prop :=
  ∃ k : Nat, k ≤ m ∧ i = .int .i64 k ∧ x = .slice (some ⟨g, 0, none⟩) (tot N k) cap ∧ wr.ownsRow w.heap.size 5 1 (.slice (some ⟨g, 0, none⟩) (tot N k) cap) (tot N k) (U8 (cat Z k)) ∧ Below w.heap.size w wr
def CatPost (w : World) (N : Nat → Nat) (Z : Nat → List Int) (m : Nat) (e : Ending) (w' : World) : Prop :=
  ∃ g cap, e = .returned (.slice (some ⟨g, 0, none⟩) (tot N m) cap) ∧ Bs w' (some ⟨g, 0, none⟩) (tot N m) cap (cat Z m) ∧ Below w.heap.size w w'

set_option maxHeartbeats 1000000 in
theorem concat_any (g off m cp : Nat) (A : Nat → Option Addr) (N C : Nat → Nat) (Z : Nat → List Int) (w : World) (hg : g < w.heap.size) (hm : m ≤ cp) (hm2 : m ≤ 281474976710656)
    (hc : ∀ j, j < m → w.cell? ⟨g, off + j, none⟩ = some (.slice (A j) (N j) (C j))) (hb : ∀ j, j < m → Bs w (A j) (N j) (C j) (Z j)) (h1 : 1 ≤ tot N m) (h2 : tot N m ≤ 281474976710656) :
    Calls Try.prog 27 #[.slice (some ⟨g, off, none⟩) m cp] w (CatPost w N Z m) := by
  obtain ⟨i0, hi, hz0, hz1, hz2⟩ := info_parts byteInfo
  have HC := Lib.hid hc
  have HB := Lib.hid hb
  clear hc hb
  go_enter Try.func27, Try.ntmps27
  go_wp2
  go_loop [3, 11] (fun x i => SizeRel N m x i) (fun _ i => m - (intOf i).toNat)
  case atStart => exact ⟨0, Nat.zero_le _, rfl, rfl⟩
  case round =>
    obtain ⟨k, hk, rfl, rfl⟩ := hrel
    by_cases hlt : k < m
    · have hc := HC.out k hlt
      have hs := tot_le N (show k + 1 ≤ m by omega)
      have hs2 : tot N k + N k ≤ 281474976710656 := by (have : tot N (k + 1) = tot N k + N k := rfl); omega
      have HS : Hid (tot N (k + 1) = tot N k + N k) := Lib.hid rfl
      clear hs
      generalize tot N k = S at hs2 HS ⊢
      go_wp2
      exact ⟨⟨k + 1, by omega, by go_num, by rw [HS.out]; go_num⟩, by simp [intOf]; omega⟩
    · obtain rfl : k = m := by omega
      go_wp2_with fail
      refine (grow_nil (tot N k) _ (by omega) h2).mono ?_
      rintro e w1 ⟨g1, cap, rfl, hcap, hown, hbl⟩
      go_wp2
      go_loopw [6, 27] (fun x i wr => CatRel w N Z k g1 cap x i wr) (fun _ i _ => k - (intOf i).toNat)
      case atStart => exact ⟨0, Nat.zero_le _, rfl, rfl, hown, hbl⟩
      case round =>
        clear hown hbl
        obtain ⟨j, hj, rfl, rfl, hown, hbl⟩ := hrel
        by_cases hlt : j < k
        · have hc := (hbl.cell (p := ⟨g, off + j, none⟩) hg).trans (HC.out j hlt)
          have hs := tot_le N (show j + 1 ≤ k by omega)
          have HS : Hid (tot N (j + 1) = tot N j + N j) := Lib.hid rfl
          have hs2 : tot N j + N j ≤ cap := by (have := HS.out; omega)
          have hz := (HB.out j hlt).below hbl
          go_wp2_with (at_builtin; refine wpList_append_fits_any _ rfl (.tmp 31) (.tmp 32) 22 rfl w.heap.size 5 i0 1 Try.underlying22 hi hz1 g1 (tot N j) cap _ rfl hown (A j) (N j) (C j) (U8 (Z j)) rfl (by rw [u8_len, hz.len]; omega) hz.2.2.1 hz.news (u8_one _) hs2 ?_; intro w2 hown2 hgrow2)
          refine ⟨⟨j + 1, by omega, by go_num, rfl, ?_, hbl.grown hgrow2 hbl.size (fun k hk => ?_)⟩, by simp [intOf]; omega⟩
          · rw [HS.out, show cat Z (j + 1) = cat Z j ++ Z j from rfl, u8_app]
            exact hown2
          · cases hk
            exact own_base hown _ rfl
        · obtain rfl : j = k := by omega
          go_wp2
          go_ret
          exact ⟨g1, cap, rfl, Bs.own hown (cat_byt (fun i hi => (HB.out i hi).byt) j (Nat.le_refl _)), hbl⟩
end Go.Proofs.Ytdaenfhedepiaaa
