/- The walk of HandlesAreDistinct. -/
import Derived.Test.YtnikbnbmbifcjaaHandPlay
import Derived.Deep.QuietTactic
import Derived.BigQuiet
set_option linter.unusedVariables false
namespace Go.Proofs.Ytnikbnbmbifcjaa
open Go.RowKit

theorem getD_mem {l : List Int} {j : Nat} (h : j < l.length) : l.getD j 0 ∈ l := by
  rw [List.getD_eq_getElem?_getD, List.getElem?_eq_getElem h]; exact List.getElem_mem _
theorem nodup_ne {l : List Int} (h : l.Nodup) {i j : Nat} (hi : i < l.length) (hj : j < i) : l.getD i 0 ≠ l.getD j 0 := by
  rw [List.getD_eq_getElem?_getD, List.getElem?_eq_getElem hi, List.getD_eq_getElem?_getD, List.getElem?_eq_getElem (show j < l.length by omega)]
  intro e
  exact (List.pairwise_iff_getElem.1 h) j i (by omega) hi hj (show l[j] = l[i] from Eq.symm e)
theorem issued_pos {σ : St} {N : Nat} {l : List Int} (h : Issued σ N l) : ∀ y ∈ l, 0 < y := by
  intro y hy
  obtain ⟨i, g, h1, h2, h3, h4, rfl⟩ := h.each y hy
  omega
set_option maxHeartbeats 2000000 in
set_option maxRecDepth 100000 in
theorem distinct_walk (I : HImpl) (c : Int) (a : Option Addr) (m cap : Nat) (w : World) (h1 : -9223372036854775808 ≤ c) (h2 : c ≤ 9223372036854775807) (hl : CallsIn w a m) (hmc : m ≤ cap) (hm : cap ≤ maxLen) :
    Calls Try.prog 5 #[.int .i64 c, .slice a m cap] w fun e w' => e = .returned (.bool true) ∧ Below w.heap.size w w' := by
  have hr := Int.emod_nonneg c (b := 10) (by omega)
  have hr2 := Int.emod_lt_of_pos c (b := 10) (by omega)
  obtain ⟨r, hr3⟩ := Int.eq_ofNat_of_zero_le hr
  rw [hr3] at hr2
  have hr4 : r < 10 := by omega
  have HR := Lib.hid hr3
  obtain ⟨n, hn⟩ : ∃ n : Nat, n = r + 1 := ⟨_, rfl⟩
  have HN : Hid ((1 : Int) + (r : Int) = (n : Int)) := by have := hn; show (1 : Int) + (r : Int) = (n : Int); omega
  have hn1 : 1 ≤ n := by omega
  have hn2 : n ≤ 10 := by omega
  clear hr hr2 hr3 hn
  go_enter Try.func5, Try.ntmps5
  go_wp2_with fail
  refine (mod_any c 10 _ h1 h2 (by decide) (by decide)).mono ?_
  rintro e w2 ⟨rfl, rfl⟩
  rw [HR.out]
  go_wp2_with fail
  rw [HN.out]
  refine (play_any I a n m cap _ hl hmc hm hn1 (by omega)).mono ?_
  rintro e w1 ⟨pa, xa, xc, N, σ, v, l, rfl, h, hcap, hiss, hN, hlen⟩
  have HISS := Lib.hid hiss
  have HND := Lib.hid hiss.nodup
  have HP := Lib.hid (issued_pos hiss)
  clear hl hcap hiss
  go_wp2_with fail
  refine (awake_any I _).mono ?_
  rintro e w2 ⟨rfl, hb2⟩
  have h2 := h.calm hb2
  have HROW := Lib.hid h2.row
  have HB := Lib.hid h2.below
  have hli : (l.length : Int) ≤ 150 := by omega
  clear h hb2 h2
  go_wp2
  go_loopw [7] (fun i wr => ∃ (k d : Nat), k ≤ l.length ∧ i = .int .i64 (k : Int) ∧ wr = w2.drewN d) (fun i _ => l.length - (intOf i).toNat)
  case atStart => exact ⟨0, 0, Nat.zero_le _, rfl, rfl⟩
  case round =>
    obtain ⟨k, d, hk, rfl, rfl⟩ := hrel
    by_cases hlt : k < l.length
    · have hki : (k : Int) < (l.length : Int) := by omega
      go_wp2
      go_loopw [8] (fun i wr => ∃ (j d : Nat), j ≤ k ∧ i = .int .i64 (j : Int) ∧ wr = w2.drewN d) (fun i _ => k - (intOf i).toNat)
      case atStart => exact ⟨0, d, Nat.zero_le _, rfl, rfl⟩
      case round =>
        obtain ⟨j, d2, hj, rfl, rfl⟩ := hrel
        by_cases hlt2 : j < k
        · obtain ⟨g, rfl, hg, hck⟩ := row_cell HROW.out hlt
          obtain ⟨g', hgg, _, hcj⟩ := row_cell HROW.out (show j < l.length by omega)
          injection hgg with hgg
          injection hgg with hgg
          subst hgg
          have hc1 : (w2.drewN d2).cell? ⟨g, k, none⟩ = some (.int .u64 (l.getD k 0)) := hck.trans (u64s_get hlt)
          have hc2 : (w2.drewN d2).cell? ⟨g, j, none⟩ = some (.int .u64 (l.getD j 0)) := hcj.trans (u64s_get (by omega))
          have hne := nodup_ne HND.out hlt hlt2
          have hji : (j : Int) < (k : Int) := by omega
          have hjl : (j : Int) < (l.length : Int) := by omega
          generalize l.getD k 0 = X at hc1 hne
          generalize l.getD j 0 = Y at hc2 hne
          have hb : (X == Y) = false := by simpa using hne
          generalize hW : w2.drewN d2 = wd at hc1 hc2
          have HW := Lib.hid hW
          clear hne hck hcj hW
          go_wp2
          go_quiet (fail)
          go_wp2
          exact ⟨⟨j + 1, d2 + nq, by omega, by go_num, by rw [← HW.out, World.drewN_drewN]⟩, by simp [intOf]; omega⟩
        · obtain rfl : j = k := by omega
          obtain ⟨g, rfl, hg, hck⟩ := row_cell HROW.out hlt
          have hc1 : (w2.drewN d2).cell? ⟨g, j, none⟩ = some (.int .u64 (l.getD j 0)) := hck.trans (u64s_get hlt)
          have hp := HP.out _ (getD_mem hlt)
          generalize l.getD j 0 = X at hc1 hp
          have hb : (X == 0) = false := by simp; omega
          clear hck hp
          go_wp2
          exact ⟨⟨j + 1, d2, by omega, by go_num, rfl⟩, by simp [intOf]; omega⟩
    · obtain rfl : k = l.length := by omega
      have hbd := below_drewN HB.out d
      go_wp2
      go_ret
      exact ⟨rfl, hbd⟩
end Go.Proofs.Ytnikbnbmbifcjaa
