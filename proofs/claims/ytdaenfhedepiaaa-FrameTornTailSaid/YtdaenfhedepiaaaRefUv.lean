/- The reference reads a varint as the program does, for every slice of bytes and every index. Condition: the slice is shorter than 2 to the 48. -/
import Derived.Test.YtdaenfhedepiaaaWordUv
set_option linter.unusedVariables false
namespace Go.Proofs.Ytdaenfhedepiaaa
open Go.RowKit


theorem ruv_bad (a : Option Addr) (n cap : Nat) (p : Int) (zs : List Int) (w : World) (hl : zs.length = n) (h : p < 0 ∨ (n : Int) < p) :
    Calls Try.prog 34 #[.slice a n cap, .int .i64 p] w fun e w' => e = .returned (uvV (uvD zs p)) ∧ w = w' := by
  have HV := Lib.hid (uvV_bad (zs := zs) (p := p) (by omega))
  clear hl
  by_cases h0 : p < 0
  · go_enter Try.func34, Try.ntmps34
    go_wp2
    go_ret3
    exact ⟨ret_tup HV.out.symm, rfl⟩
  · have h1 : (n : Int) < p := by omega
    clear h
    go_enter Try.func34, Try.ntmps34
    go_wp2
    go_ret3
    exact ⟨ret_tup HV.out.symm, rfl⟩

set_option maxHeartbeats 1000000 in
theorem ruv_good (a : Option Addr) (n cap p : Nat) (zs : List Int) (w : World) (hBs : Bs w a n cap zs) (hm : n ≤ 281474976710656) (hp : p ≤ n) :
    Calls Try.prog 34 #[.slice a n cap, .int .i64 (p : Int)] w fun e w' => e = .returned (uvV (uvD zs p)) ∧ w = w' := by
  have HB := Lib.hid hBs
  clear hBs
  go_enter Try.func34, Try.ntmps34
  go_wp2
  go_loop [7, 8, 9] (fun x y i => ∃ (k : Nat) (U Un : Int), k ≤ 9 ∧ p + k ≤ n ∧ i = .int .i64 k ∧ x = .int .u64 U ∧ y = .int .u64 Un ∧ Un = 128 ^ k ∧ 0 ≤ U ∧ U < 128 ^ k ∧ dec 0 0 (zs.drop p) = dec k U (zs.drop (p + k))) (fun _ _ i => (n - p) - (intOf i).toNat)
  case atStart => exact ⟨0, 0, 1, by omega, by omega, rfl, rfl, rfl, by decide, by omega, by decide, rfl⟩
  case round =>
    obtain ⟨k, U, Un, hk, hkn, rfl, rfl, rfl, hUn, hU0, hU1, hd⟩ := hrel
    have HU0 := Lib.hid hU0
    have HU1 := Lib.hid hU1
    have HUn := Lib.hid hUn
    have HD := Lib.hid hd
    clear hU0 hU1 hd hUn
    have HP := Lib.hid (show p ≤ zs.length by rw [HB.out.len]; exact hp)
    by_cases hlt : p + k < n
    · obtain ⟨b, off, rfl, hbb, hcell⟩ := HB.out.at_ (by omega)
      have hc := hcell (p + k) hlt
      have hb := HB.out.byt.get (p + k)
      have HH := Lib.hid (drop_head (zs := zs) (j := p + k) (by rw [HB.out.len]; exact hlt))
      generalize zs.getD (p + k) 0 = c at hc hb HH
      obtain ⟨hb0, hb1⟩ := hb
      have HD2 := Lib.hid (HD.out.trans (by rw [HH.out]))
      clear HD HH hcell
      have hlt2 : (p : Int) + (k : Int) < (n : Int) := by omega
      have hne : ((p : Int) + (k : Int) == (n : Int)) = false := by simp; omega
      have hp1 := pow128 k
      have hp9 := pow128_le k hk
      rw [← HUn.out] at hp1 hp9
      by_cases cA : k = 9 ∧ 1 < c
      · obtain ⟨rfl, c1⟩ := cA
        have HF := Lib.hid (uvV_err (x := 13) HP.out (by decide) (HD2.out.trans (dec_over rfl c1)))
        go_wp2
        go_ret3
        exact ⟨ret_tup HF.out.symm, rfl⟩
      · by_cases cB : 128 ≤ c
        · have hk9 : k < 9 := by omega
          have HN := Lib.hid (HD2.out.trans (dec_more hk9 cB))
          have hk9' : ((k : Int) == 9) = false := by simp; omega
          have hp8 := pow128_le8 k (by omega)
          rw [← HUn.out] at hp8
          clear HD2 cA
          go_wp2
          have hg := group_sum (c := c % 128) hk HU0.out HU1.out (by omega) (by omega) (by omega)
          have hn := group_next (k := k) (c := c % 128) HU0.out HU1.out (by omega) (by omega)
          refine ⟨⟨k + 1, U + c % 128 * 128 ^ k, 128 ^ (k + 1), by omega, by omega, by go_num, by rw [HUn.out, hg], by rw [HUn.out, Int.pow_succ], rfl, hn.1, hn.2, HN.out⟩, by simp [intOf]; omega⟩
        · have hm127 : c % 128 = c := by omega
          have HM := Lib.hid hm127
          clear hm127
          by_cases cC : c = 0 ∧ 0 < k
          · obtain ⟨rfl, k0⟩ := cC
            have HF := Lib.hid (uvV_err (x := 13) HP.out (by decide) (HD2.out.trans (dec_zero k0 rfl)))
            clear cA cB
            by_cases k9 : k = 9
            · subst k9
              go_wp2
              go_ret3
              exact ⟨ret_tup HF.out.symm, rfl⟩
            · have hk9' : ((k : Int) == 9) = false := by simp; omega
              clear k9
              go_wp2
              go_ret3
              exact ⟨ret_tup HF.out.symm, rfl⟩
          · have HF := Lib.hid (uvV_ok HP.out (HD2.out.trans (dec_last cA (by omega) cC)))
            have HG := Lib.hid (group_sum (c := c) hk HU0.out HU1.out hb0 (by omega) (by omega))
            by_cases k0 : k = 0
            · subst k0
              simp only [Nat.add_zero] at hc
              clear cA cC
              go_wp2
              go_ret3
              exact ⟨(tup3 (by rw [HM.out, HUn.out]; exact HG.out) (by omega)).trans (ret_tup HF.out.symm), rfl⟩
            · have hc0 : (c == 0) = false := by simp; omega
              have hk0 : (0 : Int) < (k : Int) := by omega
              by_cases k9 : k = 9
              · subst k9
                have c1 : c ≤ 1 := by omega
                clear cA cC k0 
                go_wp2
                go_ret3
                exact ⟨(tup3 (by rw [HM.out, HUn.out]; exact HG.out) (by omega)).trans (ret_tup HF.out.symm), rfl⟩
              · have hk9' : ((k : Int) == 9) = false := by simp; omega
                clear cA cC k0 k9
                go_wp2
                go_ret3
                exact ⟨(tup3 (by rw [HM.out, HUn.out]; exact HG.out) (by omega)).trans (ret_tup HF.out.symm), rfl⟩
    · obtain rfl : k = n - p := by omega
      have HF := Lib.hid (uvV_err (zs := zs) (p := p) (x := 12) HP.out (by decide) (HD.out.trans (by rw [List.drop_eq_nil_of_le (by rw [HB.out.len]; omega)]; rfl)))
      have e : (p : Int) + ((n - p : Nat) : Int) = (n : Int) := by omega
      have hk9 : ((n - p : Nat) : Int) < 10 := by omega
      clear HD
      go_wp2
      go_ret3
      exact ⟨ret_tup HF.out.symm, rfl⟩

theorem ruv_any (a : Option Addr) (n cap : Nat) (p : Int) (zs : List Int) (w : World) (h : Bs w a n cap zs) (hm : n ≤ 281474976710656) :
    Calls Try.prog 34 #[.slice a n cap, .int .i64 p] w fun e w' => e = .returned (uvV (uvD zs p)) ∧ w = w' := by
  by_cases hp : p < 0 ∨ (n : Int) < p
  · exact ruv_bad a n cap p zs w h.len hp
  · obtain ⟨q, rfl⟩ := Int.eq_ofNat_of_zero_le (show 0 ≤ p by omega)
    exact ruv_good a n cap q zs w h hm (by omega)
end Go.Proofs.Ytdaenfhedepiaaa
