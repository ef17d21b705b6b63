/- The walk of HandlesNew. -/
import Derived.Test.YtnikbnbmbifcjaaHandPlay
set_option linter.unusedVariables false
namespace Go.Proofs.Ytnikbnbmbifcjaa
open Go.RowKit

/-- the outcome of the first call -/
theorem first_new (I : HImpl) (c : Int) (w : World) (h1 : -9223372036854775808 ≤ c) (h2 : c ≤ 9223372036854775807) : Calls Try.prog 8 #[.int .i64 c] w
    fun e w' => ∃ a x, e = .returned (.tuple #[.pointer a, .int .i64 x]) ∧ ((1 ≤ c ∧ c ≤ 4096 ∧ x = 0 ∧ a.isNone = false) ∨ ((c < 1 ∨ (1 ≤ c ∧ 4096 < c)) ∧ x = 1 ∧ a = none)) ∧ Below w.heap.size w w' := by
  by_cases h : 1 ≤ c ∧ c ≤ 4096
  · obtain ⟨n, rfl⟩ := Int.eq_ofNat_of_zero_le (show 0 ≤ c by omega)
    refine (ti_new I n n w (by omega) (by omega) rfl).mono ?_
    rintro e w1 ⟨a, rfl, h3⟩
    exact ⟨_, _, rfl, .inl ⟨h.1, h.2, rfl, rfl⟩, h3.below⟩
  · refine (I.new_bad c w h1 h2 (by omega)).mono ?_
    rintro e w1 ⟨rfl, hb⟩
    exact ⟨_, _, rfl, .inr ⟨by omega, rfl, rfl⟩, hb⟩
def NewRel (I : HImpl) (w0 : World) (p : Value) (n : Nat) (i : Value) (wr : World) : Prop :=
  ∃ (k : Nat) (σ : St) (v : Nat → Int), k ≤ n ∧ i = .int .i64 (k : Int) ∧ TI I w0.heap.size w0 wr p σ v (.slice none 0 0) [] ∧ σ.cap = n ∧ σ.free.length + k = n
set_option maxHeartbeats 2000000 in
set_option maxRecDepth 100000 in
theorem new_walk (I : HImpl) (c s : Int) (w : World) (h1 : -9223372036854775808 ≤ c) (h2 : c ≤ 9223372036854775807) (h3 : -9223372036854775808 ≤ s) (h4 : s ≤ 9223372036854775807) :
    Calls Try.prog 3 #[.int .i64 c, .int .i64 s] w fun e w' => e = .returned (.bool true) ∧ Below w.heap.size w w' := by
  have hr := Int.emod_nonneg s (b := 30) (by omega)
  have hr2 := Int.emod_lt_of_pos s (b := 30) (by omega)
  obtain ⟨r, hr3⟩ := Int.eq_ofNat_of_zero_le hr
  rw [hr3] at hr2
  have hr4 : r < 30 := by omega
  have HR := Lib.hid hr3
  obtain ⟨n, hn⟩ : ∃ n : Nat, n = r + 1 := ⟨_, rfl⟩
  have HN : Hid ((1 : Int) + (r : Int) = (n : Int)) := by have := hn; show (1 : Int) + (r : Int) = (n : Int); omega
  have hn1 : 1 ≤ n := by omega
  have hn2 : n ≤ 30 := by omega
  clear hr hr2 hr3 hn
  go_enter Try.func3, Try.ntmps3
  go_wp2_with fail
  refine (first_new I c _ h1 h2).mono ?_
  rintro e w1 ⟨a, x, rfl, hcase, hb1⟩
  rcases hcase with ⟨hc1, hc2, rfl, ha⟩ | ⟨hc1 | ⟨hc0, hc1⟩, rfl, rfl⟩
  rotate_left
  all_goals
    try (obtain ⟨a, rfl⟩ : ∃ y, a = some y := by cases a with | none => simp at ha | some y => exact ⟨y, rfl⟩)
    go_wp2_with fail
    refine (mod_any s 30 _ h3 h4 (by decide) (by decide)).mono ?_
    rintro e w2 ⟨rfl, rfl⟩
    rw [HR.out]
    go_wp2_with fail
    rw [HN.out]
    refine (ti_new I n n _ hn1 (by omega) rfl).mono ?_
    rintro e w3 ⟨pa, rfl, h⟩
    go_wp2_with fail
    refine (awake_any I _).mono ?_
    rintro e w4 ⟨rfl, hb4⟩
    have h4 := h.calm hb4
    clear h hb4
    go_wp2
    go_loopw [10] (fun i wr => NewRel I w1 (.pointer (some pa)) n i wr) (fun i _ => n - (intOf i).toNat)
    case atStart => exact ⟨0, _, _, Nat.zero_le _, rfl, h4, rfl, by simp [St.init]⟩
    case round =>
      clear h4
      obtain ⟨k, σ, v, hk, rfl, h, hcap, hfl⟩ := hrel
      have hol := opened_len h.ok
      have hopen : σ.opened.length = k := by omega
      have HO := Lib.hid hopen
      have HCAP := Lib.hid hcap
      by_cases hlt : k < n
      · have hki : (k : Int) < (n : Int) := by omega
        have hki3 : (k : Int) ≤ 30 := by omega
        have hkw : IntKind.u32.wrap (k : Int) = (k : Int) := by rw [IntKind.wrap_u32']; omega
        clear hopen hol hcap
        go_wp2_with fail
        refine (ti_len h).mono ?_
        rintro e w5 ⟨rfl, hb5⟩
        rw [HO.out]
        have h5 := h.calm hb5
        clear h hb5
        rcases free_or σ with hf | ⟨i, t, hf⟩
        · rw [hf, List.length_nil] at hfl; omega
        · have hok := h5.ok
          have him := (hok.free i).1 (by rw [hf]; simp)
          have htl : t.length + (k + 1) = n := by rw [hf, List.length_cons] at hfl; omega
          have htok := St.take_ok hok hf
          have hpos := hd_pos htok (i := i) (by simp [St.take])
          have HF := Lib.hid hf
          have HT := Lib.hid htl
          clear hf hfl htl hok him htok
          go_wp2_with fail
          refine (ti_open h5 HF.out (by omega) (by omega)).mono ?_
          rintro e w6 ⟨rfl, h6⟩
          generalize (σ.take i t).hd i = Y at hpos ⊢
          have hY : ¬ Y = 0 := by omega
          clear h5 hpos
          go_wp2
          exact ⟨⟨k + 1, _, _, by omega, by go_num, h6, HCAP.out, HT.out⟩, by simp [intOf]; omega⟩
      · obtain rfl : k = n := by omega
        have hf : σ.free = [] := List.eq_nil_of_length_eq_zero (by omega)
        have HF := Lib.hid hf
        clear hf hfl hol hopen hcap
        go_wp2_with fail
        refine (ti_full h HF.out (by decide) (by decide)).mono ?_
        rintro e w6 ⟨rfl, h6⟩
        clear h
        go_wp2_with fail
        refine (ti_len h6).mono ?_
        rintro e w7 ⟨rfl, hb7⟩
        rw [HO.out]
        have h7 := h6.calm hb7
        clear h6 hb7
        go_wp2
        go_ret
        exact ⟨rfl, hb1.trans (h7.below.mono hb1.size)⟩
end Go.Proofs.Ytnikbnbmbifcjaa
