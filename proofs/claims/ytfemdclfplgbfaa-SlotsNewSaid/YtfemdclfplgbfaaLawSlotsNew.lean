/- The walk of SlotsNew. -/
import Derived.Test.YtfemdclfplgbfaaSlotsPlay
set_option linter.unusedVariables false
namespace Go.Proofs.Ytfemdclfplgbfaa
open Go.RowKit

theorem init_len (n : Nat) : (St.init n).free.length = n := by simp [St.init]
theorem init_at (n j : Nat) (h : j < n) : (u32s (St.init n).free)[j]? = some (.int .u32 ((j : Int) + 1)) := by
  simp [u32s, St.init, h]
  omega
/-- the outcome of the first call -/
theorem first_new (I : Impl) (c : Int) (w : World) (h1 : -9223372036854775808 ≤ c) (h2 : c ≤ 9223372036854775807) : Calls Try.prog 8 #[.int .i64 c] w
    fun e w' => ∃ a x, e = .returned (.tuple #[.pointer a, .int .i64 x]) ∧ ((1 ≤ c ∧ c ≤ 65536 ∧ x = 0 ∧ a.isNone = false) ∨ ((c < 1 ∨ (1 ≤ c ∧ 65536 < c)) ∧ x = 1 ∧ a = none)) ∧ Below w.heap.size w w' := by
  by_cases h : 1 ≤ c ∧ c ≤ 65536
  · obtain ⟨n, rfl⟩ := Int.eq_ofNat_of_zero_le (show 0 ≤ c by omega)
    refine (new_has I n n w (by omega) (by omega) rfl).mono ?_
    rintro e w1 ⟨a, rfl, _, hb⟩
    exact ⟨_, _, rfl, .inl ⟨h.1, h.2, rfl, rfl⟩, hb⟩
  · refine (I.new_bad c w h1 h2 (by omega)).mono ?_
    rintro e w1 ⟨rfl, hb⟩
    exact ⟨_, _, rfl, .inr ⟨by omega, rfl, rfl⟩, hb⟩

set_option maxHeartbeats 2000000 in
set_option maxRecDepth 100000 in
theorem new_walk (I : Impl) (c s : Int) (w : World) (h1 : -9223372036854775808 ≤ c) (h2 : c ≤ 9223372036854775807) (h3 : -9223372036854775808 ≤ s) (h4 : s ≤ 9223372036854775807) :
    Calls Try.prog 3 #[.int .i64 c, .int .i64 s] w fun e w' => e = .returned (.bool true) ∧ Below w.heap.size w w' := by
  have hr := Int.emod_nonneg s (b := 40) (by omega)
  have hr2 := Int.emod_lt_of_pos s (b := 40) (by omega)
  obtain ⟨r, hr3⟩ := Int.eq_ofNat_of_zero_le hr
  rw [hr3] at hr2
  have hr4 : r < 40 := by omega
  have HR := Lib.hid hr3
  obtain ⟨n, hn⟩ : ∃ n : Nat, n = r + 1 := ⟨_, rfl⟩
  have HN : Hid ((1 : Int) + (r : Int) = (n : Int)) := by have := hn; show (1 : Int) + (r : Int) = (n : Int); omega
  have hn1 : 1 ≤ n := by omega
  have hn2 : n ≤ 40 := by omega
  clear hr hr2 hr3 hn
  go_enter Try.func3, Try.ntmps3
  go_wp2_with fail
  refine (first_new I c _ h1 h2).mono ?_
  rintro e w1 ⟨a, x, rfl, hcase, hb1⟩
  rcases hcase with ⟨hc1, hc2, rfl, ha⟩ | ⟨hc1 | ⟨hc0, hc1⟩, rfl, rfl⟩
  rotate_left
  all_goals
    try (obtain ⟨a, rfl⟩ : ∃ y, a = some y := by cases a with | none => simp at ha | some y => exact ⟨y, rfl⟩)
    go_wp2_with fail
    refine (mod_any s 40 _ h3 h4 (by decide) (by decide)).mono ?_
    rintro e w2 ⟨rfl, rfl⟩
    rw [HR.out]
    go_wp2_with fail
    rw [HN.out]
    refine (new_has I n n _ hn1 (by omega) rfl).mono ?_
    rintro e w3 ⟨pa, rfl, h, hb3⟩
    have hb := hb1.trans (hb3.mono hb1.size)
    clear hb1 hb3
    go_wp2_with fail
    refine (awake_any I _).mono ?_
    rintro e w4 ⟨rfl, hb4⟩
    have h4 := h.below hb4
    have hbb := hb.trans (hb4.mono hb.size)
    clear h hb hb4
    go_wp2_with fail
    refine (count_has I h4).mono ?_
    rintro e w5 ⟨rfl, hb5⟩
    rw [init_len]
    have h5 := h4.below hb5
    have hb := hbb.trans (hb5.mono hbb.size)
    clear h4 hbb hb5
    go_wp2_with fail
    refine (cap_has I h5).mono ?_
    rintro e w6 ⟨rfl, hb6⟩
    rw [show (St.init n).cap = n from rfl]
    have h6 := h5.below hb6
    have hbb := hb.trans (hb6.mono hb.size)
    clear h5 hb hb6
    go_wp2_with fail
    refine (order_has I h6).mono ?_
    rintro e w7 ⟨oa, oc, rfl, ho, hb7⟩
    rw [init_len] at ho ⊢
    have h7 := h6.below hb7
    have hb := hbb.trans (hb7.mono hbb.size)
    clear h6 hbb hb7
    go_wp2
    go_loopw [11] (fun i wr => ∃ k : Nat, k ≤ n ∧ i = .int .i64 (k : Int) ∧ Below w7.heap.size w7 wr) (fun i _ => n - (intOf i).toNat)
    case atStart => exact ⟨0, Nat.zero_le _, rfl, Below.refl _ _⟩
    case round =>
      obtain ⟨k, hk, rfl, hbr⟩ := hrel
      by_cases hlt : k < n
      · obtain ⟨g, rfl, hg, hcell⟩ := row_cell ho hlt
        have hc := (hbr.cell (p := ⟨g, k, none⟩) hg).trans (hcell.trans (init_at n k hlt))
        have h8 := h7.below hbr
        have hbb := hb.trans (hbr.mono hb.size)
        have hki : (k : Int) < (n : Int) := by omega
        have hk2 : (k : Int) + 1 ≤ 40 := by omega
        have hni : (n : Int) ≤ 40 := by omega
        have hgrow := hbr.size
        clear hcell
        go_wp2_with fail
        refine (on_has I h8 (i := k + 1) (by omega) (by omega)).mono ?_
        rintro e w8 ⟨rfl, hb8⟩
        rw [show (St.init n).on (k + 1) = false from rfl]
        have h9 := h8.below hb8
        have hbr2 := hbr.trans (hb8.mono hgrow)
        clear h8 hb8 hbb hc
        go_wp2_with fail
        refine (gen_has I h9 (i := k + 1) (by omega) (by omega)).mono ?_
        rintro e w9 ⟨rfl, hb9⟩
        rw [show (St.init n).gen (k + 1) = 0 from rfl]
        have hbr3 := hbr2.trans (hb9.mono hbr2.size)
        clear h9 hbr hb9 hbr2
        go_wp2
        exact ⟨⟨k + 1, by omega, by go_num, hbr3⟩, by simp [intOf]; omega⟩
      · obtain rfl : k = n := by omega
        go_wp2
        go_ret
        exact ⟨rfl, hb.trans (hbr.mono hb.size)⟩
end Go.Proofs.Ytfemdclfplgbfaa
