/- Uvarint returns what the chapter says, for every slice of bytes and every index. Condition: the slice is shorter than 2 to the 48. -/
import Derived.Test.YtdaenfhedepiaaaBase
import Derived.Test.YtdaenfhedepiaaaDecs
set_option linter.unusedVariables false
namespace Go.Proofs.Ytdaenfhedepiaaa
open Go.RowKit


/-- the answer of reading a varint at p -/
def uvD (zs : List Int) (p : Int) : Int × Int × Int :=
  if p < 0 ∨ (zs.length : Int) < p then (0, 0, 1) else
    ((dec 0 0 (zs.drop p.toNat)).1, (if (dec 0 0 (zs.drop p.toNat)).2.2 = 0 then p + ((dec 0 0 (zs.drop p.toNat)).2.1 : Int) else 0), (dec 0 0 (zs.drop p.toNat)).2.2)

def uvV (r : Int × Int × Int) : Value := .tuple #[.int .u64 r.1, .int .i64 r.2.1, .int .i64 r.2.2]

theorem uvV_bad {zs : List Int} {p : Int} (h : p < 0 ∨ (zs.length : Int) < p) : uvV (uvD zs p) = .tuple #[.int .u64 0, .int .i64 0, .int .i64 1] := by
  unfold uvD; rw [if_pos h]; rfl

theorem uvV_err {zs : List Int} {p : Nat} {x : Int} (hp : p ≤ zs.length) (hx : x ≠ 0) (h : dec 0 0 (zs.drop p) = (0, 0, x)) : uvV (uvD zs p) = .tuple #[.int .u64 0, .int .i64 0, .int .i64 x] := by
  unfold uvD; rw [if_neg (by omega), Int.toNat_natCast, h]; simp [uvV, hx]

theorem uvV_ok {zs : List Int} {p m : Nat} {u : Int} (hp : p ≤ zs.length) (h : dec 0 0 (zs.drop p) = (u, m, 0)) : uvV (uvD zs p) = .tuple #[.int .u64 u, .int .i64 ((p : Int) + (m : Int)), .int .i64 0] := by
  unfold uvD; rw [if_neg (by omega), Int.toNat_natCast, h]; simp [uvV]

theorem tup3 {a a' b b' c : Int} (ha : a = a') (hb : b = b') : Ending.returned (.tuple #[.int .u64 a, .int .i64 b, .int .i64 c]) = .returned (.tuple #[.int .u64 a', .int .i64 b', .int .i64 c]) := by rw [ha, hb]

theorem uv_bad (a : Option Addr) (n cap : Nat) (p : Int) (zs : List Int) (w : World) (hl : zs.length = n) (h : p < 0 ∨ (n : Int) < p) :
    Calls Try.prog 31 #[.slice a n cap, .int .i64 p] w fun e w' => e = .returned (uvV (uvD zs p)) ∧ w = w' := by
  have HV := Lib.hid (uvV_bad (zs := zs) (p := p) (by omega))
  clear hl
  by_cases h0 : p < 0
  · go_enter Try.func31, Try.ntmps31
    go_wp2
    go_ret3
    exact ⟨ret_tup HV.out.symm, rfl⟩
  · have h1 : (n : Int) < p := by omega
    clear h
    go_enter Try.func31, Try.ntmps31
    go_wp2
    go_ret3
    exact ⟨ret_tup HV.out.symm, rfl⟩

theorem uv_end (a : Option Addr) (n cap : Nat) (zs : List Int) (w : World) (hl : zs.length = n) (h : n ≤ cap) (hm : n ≤ 281474976710656) :
    Calls Try.prog 31 #[.slice a n cap, .int .i64 (n : Int)] w fun e w' => e = .returned (uvV (uvD zs n)) ∧ w = w' := by
  have HV := Lib.hid (uvV_err (zs := zs) (p := n) (x := 12) (by omega) (by decide) (by rw [List.drop_eq_nil_of_le (by omega)]; rfl))
  clear hl
  go_enter Try.func31, Try.ntmps31
  go_wp2
  all_goals
    refine wp_loop_rounds 1 ?_
    rw [rounds_succ]
    go_wp2
    go_ret3
    exact ⟨ret_tup HV.out.symm, rfl⟩

set_option maxHeartbeats 1000000 in
theorem uv_mid (b off : Nat) (n cap p : Nat) (zs : List Int) (w : World) (hl : zs.length = n) (hz : Byt zs) (h : n ≤ cap) (hm : n ≤ 281474976710656) (hp : p < n)
    (hcell : ∀ j, j < n → w.cell? ⟨b, off + j, none⟩ = some (.int .u8 (zs.getD j 0))) :
    Calls Try.prog 31 #[.slice (some ⟨b, off, none⟩) n cap, .int .i64 (p : Int)] w fun e w' => e = .returned (uvV (uvD zs p)) ∧ w = w' := by
  have HL := Lib.hid hl
  have HC := Lib.hid hcell
  have HZ := Lib.hid hz
  clear hl hcell hz
  go_enter Try.func31, Try.ntmps31
  go_wp2
  go_loop [7, 22] (fun x i => ∃ (k : Nat) (U : Int), k ≤ 9 ∧ p + k ≤ n ∧ i = .int .i64 k ∧ x = .int .u64 U ∧ 0 ≤ U ∧ U < 128 ^ k ∧ dec 0 0 (zs.drop p) = dec k U (zs.drop (p + k))) (fun _ i => (n - p) - (intOf i).toNat)
  case atStart => exact ⟨0, 0, by omega, by omega, rfl, rfl, by omega, by decide, rfl⟩
  case round =>
    obtain ⟨k, U, hk, hkn, rfl, rfl, hU0, hU1, hd⟩ := hrel
    have HU0 := Lib.hid hU0
    have HU1 := Lib.hid hU1
    have HD := Lib.hid hd
    clear hU0 hU1 hd
    by_cases hlt : p + k < n
    · have hc := HC.out (p + k) hlt
      have hb := HZ.out.get (p + k)
      have HH := Lib.hid (drop_head (zs := zs) (j := p + k) (by rw [HL.out]; exact hlt))
      generalize zs.getD (p + k) 0 = c at hc hb HH
      rw [← Nat.add_assoc] at hc
      obtain ⟨hb0, hb1⟩ := hb
      have HD2 := Lib.hid (HD.out.trans (by rw [HH.out]))
      clear HD HH
      have h127 := and8_127 c hb0 (by omega)
      have hlt2 : (k : Int) < ((n - p : Nat) : Int) := by omega
      have hpz : p ≤ zs.length := by rw [HL.out]; omega
      have HP := Lib.hid hpz
      clear hpz
      by_cases cA : k = 9 ∧ 1 < c
      · obtain ⟨rfl, c1⟩ := cA
        have HF := Lib.hid (uvV_err (x := 13) HP.out (by decide) (HD2.out.trans (dec_over rfl c1)))
        go_wp2
        go_ret3
        exact ⟨ret_tup HF.out.symm, rfl⟩
      · by_cases cB : 128 ≤ c
        · have hk9 : k < 9 := by omega
          have h128 : bits .and .u8 c 128 = 128 := by rw [and8_128 c hb0 (by omega), if_neg (by omega)]
          have HN := Lib.hid (HD2.out.trans (dec_more hk9 cB))
          have hk9' : ((k : Int) == 9) = false := by simp; omega
          clear HD2 cA
          go_wp2
          have hg := group_or (c := c % 128) hk HU0.out HU1.out (by omega) (by omega) (by omega)
          have hn := group_next (k := k) (c := c % 128) HU0.out HU1.out (by omega) (by omega)
          refine ⟨⟨k + 1, U + c % 128 * 128 ^ k, by omega, by omega, by go_num, by rw [hg], hn.1, hn.2, HN.out⟩, by simp [intOf]; omega⟩
        · have h128 : bits .and .u8 c 128 = 0 := by rw [and8_128 c hb0 (by omega), if_pos (by omega)]
          have hm127 : c % 128 = c := by omega
          rw [hm127] at h127
          clear hm127
          by_cases cC : c = 0 ∧ 0 < k
          · obtain ⟨rfl, k0⟩ := cC
            have HF := Lib.hid (uvV_err (x := 13) HP.out (by decide) (HD2.out.trans (dec_zero k0 rfl)))
            clear cA cB
            by_cases k9 : k = 9
            · subst k9
              go_wp2
              go_ret3
              exact ⟨ret_tup HF.out.symm, rfl⟩
            · have hk9' : ((k : Int) == 9) = false := by simp; omega
              clear k9
              go_wp2
              go_ret3
              exact ⟨ret_tup HF.out.symm, rfl⟩
          · have HF := Lib.hid (uvV_ok HP.out (HD2.out.trans (dec_last cA (by omega) cC)))
            have HG := Lib.hid (group_or (c := c) hk HU0.out HU1.out hb0 (by omega) (by omega))
            by_cases c0 : c = 0
            · have k0 : k = 0 := by omega
              subst c0 k0
              simp only [Nat.add_zero] at hc
              clear cA cB cC
              go_wp2
              go_ret3
              have hg := HG.out
              rw [show IntKind.u64.wrap ((0 : Int) * 2 ^ (7 * 0)) = 0 by decide] at hg
              exact ⟨(tup3 hg (by omega)).trans (ret_tup HF.out.symm), rfl⟩
            · have hc0 : (c == 0) = false := by simpa using c0
              by_cases k9 : k = 9
              · subst k9
                have c1 : c ≤ 1 := by omega
                clear cA cB cC c0
                go_wp2
                go_ret3
                have hg := HG.out
                rw [show IntKind.u64.wrap (c * 2 ^ (7 * 9)) = c * 9223372036854775808 by rw [show (2 : Int) ^ (7 * 9) = 9223372036854775808 by decide, IntKind.wrap_u64]; omega] at hg
                exact ⟨(tup3 hg (by omega)).trans (ret_tup HF.out.symm), rfl⟩
              · have hk9' : ((k : Int) == 9) = false := by simp; omega
                clear cA cB cC c0 k9
                go_wp2
                go_ret3
                exact ⟨(tup3 HG.out (by omega)).trans (ret_tup HF.out.symm), rfl⟩
    · obtain rfl : k = n - p := by omega
      have HF := Lib.hid (uvV_err (zs := zs) (p := p) (x := 12) (by rw [HL.out]; omega) (by decide) (HD.out.trans (by rw [List.drop_eq_nil_of_le (by rw [HL.out]; omega)]; rfl)))
      clear HD
      go_wp2
      go_ret3
      exact ⟨ret_tup HF.out.symm, rfl⟩

theorem uv_any (a : Option Addr) (n cap : Nat) (p : Int) (zs : List Int) (w : World) (h : Bs w a n cap zs) (hm : n ≤ 281474976710656) :
    Calls Try.prog 31 #[.slice a n cap, .int .i64 p] w fun e w' => e = .returned (uvV (uvD zs p)) ∧ w = w' := by
  by_cases hp : p < 0 ∨ (n : Int) < p
  · exact uv_bad a n cap p zs w h.len hp
  · obtain ⟨q, rfl⟩ := Int.eq_ofNat_of_zero_le (show 0 ≤ p by omega)
    by_cases hq : q = n
    · subst hq
      exact uv_end a q cap zs w h.len h.2.1 hm
    · obtain ⟨b, off, rfl, _, hc⟩ := h.at_ (by omega)
      exact uv_mid b off n cap q zs w h.len h.byt h.2.1 hm (by omega) hc
end Go.Proofs.Ytdaenfhedepiaaa
