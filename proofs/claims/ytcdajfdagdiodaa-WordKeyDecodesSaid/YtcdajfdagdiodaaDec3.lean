/- What the two functions that read a key's eight bytes return, for every slice of bytes and every index: the program's and the reference's return the same. Condition: the slice is shorter than 2 to the 48. They read, and write nothing. -/
import Derived.Test.YtcdajfdagdiodaaDec
set_option linter.unusedVariables false
namespace Go.Proofs.Ytcdajfdagdiodaa
open Go.RowKit

/-- the answer of reading a key at p -/
def keyD (zs : List Int) (p : Int) : Int × Int × Int :=
  if p < 0 ∨ (zs.length : Int) < p then (0, 0, 1) else if (zs.length : Int) - p < 8 then (0, 0, 12) else (ob ((zs.drop p.toNat).take 8) - 9223372036854775808, p + 8, 0)
def keyV (r : Int × Int × Int) : Value := .tuple #[.int .i64 r.1, .int .i64 r.2.1, .int .i64 r.2.2]
theorem keyV_bad {zs : List Int} {p : Int} (h : p < 0 ∨ (zs.length : Int) < p) : keyV (keyD zs p) = .tuple #[.int .i64 0, .int .i64 0, .int .i64 1] := by
  unfold keyD; rw [if_pos h]; rfl
theorem keyV_short {zs : List Int} {p : Nat} (hp : p ≤ zs.length) (h : (zs.length : Int) - p < 8) : keyV (keyD zs p) = .tuple #[.int .i64 0, .int .i64 0, .int .i64 12] := by
  unfold keyD; rw [if_neg (by omega), if_pos h]; rfl
theorem keyV_ok {zs : List Int} {p : Nat} (h : p + 8 ≤ zs.length) : keyV (keyD zs p) = .tuple #[.int .i64 (ob ((zs.drop p).take 8) - 9223372036854775808), .int .i64 ((p : Int) + 8), .int .i64 0] := by
  unfold keyD; rw [if_neg (by omega), if_neg (by omega), Int.toNat_natCast]; rfl
theorem tup3i {a a' b b' c : Int} (ha : a = a') (hb : b = b') : Ending.returned (.tuple #[.int .i64 a, .int .i64 b, .int .i64 c]) = .returned (.tuple #[.int .i64 a', .int .i64 b', .int .i64 c]) := by rw [ha, hb]
theorem key_xor (U : Int) (h0 : 0 ≤ U) (h1 : U < 18446744073709551616) : wrap64 (bits .xor .u64 U 9223372036854775808) = U - 9223372036854775808 := by
  rw [xor64_top U h0 h1]; unfold wrap64; omega
theorem key_sub (U : Int) (h0 : 0 ≤ U) (h1 : U < 18446744073709551616) : wrap64 (IntKind.u64.wrap (U - 9223372036854775808)) = U - 9223372036854775808 := by
  rw [IntKind.wrap_u64]; unfold wrap64; omega
theorem ob_at {zs : List Int} {p k : Nat} (hz : Byt zs) (hk : k < 8) (hp : p + 8 ≤ zs.length) :
    0 ≤ ob ((zs.drop p).take k) ∧ ob ((zs.drop p).take k) < 72057594037927936 ∧ ob ((zs.drop p).take (k + 1)) = 256 * ob ((zs.drop p).take k) + zs.getD (p + k) 0 := by
  have h := ob_bd (zs.drop p) (hz.drop p) k (by simp; omega)
  have h2 : (256 : Nat) ^ k ≤ 256 ^ 7 := Nat.pow_le_pow_right (by decide) (by omega)
  have h6 : ((256 ^ k : Nat) : Int) ≤ ((256 ^ 7 : Nat) : Int) := by omega
  rw [Int.natCast_pow] at h6
  have h7 : ((256 ^ 7 : Nat) : Int) = 72057594037927936 := by decide
  rw [h7] at h6
  have h8 : (((256 : Nat) : Int)) = 256 := rfl
  rw [h8] at h6
  refine ⟨h.1, by omega, ?_⟩
  rw [ob_step (by simp; omega), List.getElem?_drop, List.getD_eq_getElem?_getD]
theorem ob8_bd {zs : List Int} {p : Nat} (hz : Byt zs) (hp : p + 8 ≤ zs.length) : 0 ≤ ob ((zs.drop p).take 8) ∧ ob ((zs.drop p).take 8) < 18446744073709551616 := by
  have h := ob_bd (zs.drop p) (hz.drop p) 8 (by simp; omega)
  refine ⟨h.1, ?_⟩
  have h7 : (256 : Int) ^ 8 = 18446744073709551616 := by decide
  rw [h7] at h
  exact h.2

theorem key_bad (a : Option Addr) (n cap : Nat) (p : Int) (zs : List Int) (w : World) (hl : zs.length = n) (h : p < 0 ∨ (n : Int) < p) :
    Calls Try.prog 28 #[.slice a n cap, .int .i64 p] w fun e w' => e = .returned (keyV (keyD zs p)) ∧ w = w' := by
  have HV := Lib.hid (keyV_bad (zs := zs) (p := p) (by omega))
  clear hl
  by_cases h0 : p < 0
  · go_enter Try.func28, Try.ntmps28
    go_wp2
    go_ret3
    exact ⟨ret_tup HV.out.symm, rfl⟩
  · have h1 : (n : Int) < p := by omega
    clear h
    go_enter Try.func28, Try.ntmps28
    go_wp2
    go_ret3
    exact ⟨ret_tup HV.out.symm, rfl⟩
theorem rkey_bad (a : Option Addr) (n cap : Nat) (p : Int) (zs : List Int) (w : World) (hl : zs.length = n) (h : p < 0 ∨ (n : Int) < p) :
    Calls Try.prog 30 #[.slice a n cap, .int .i64 p] w fun e w' => e = .returned (keyV (keyD zs p)) ∧ w = w' := by
  have HV := Lib.hid (keyV_bad (zs := zs) (p := p) (by omega))
  clear hl
  by_cases h0 : p < 0
  · go_enter Try.func30, Try.ntmps30
    go_wp2
    go_ret3
    exact ⟨ret_tup HV.out.symm, rfl⟩
  · have h1 : (n : Int) < p := by omega
    clear h
    go_enter Try.func30, Try.ntmps30
    go_wp2
    go_ret3
    exact ⟨ret_tup HV.out.symm, rfl⟩
theorem key_short (a : Option Addr) (n cap p : Nat) (zs : List Int) (w : World) (hl : zs.length = n) (hm : n ≤ 281474976710656) (hp : p ≤ n) (h : (n : Int) - p < 8) :
    Calls Try.prog 28 #[.slice a n cap, .int .i64 (p : Int)] w fun e w' => e = .returned (keyV (keyD zs p)) ∧ w = w' := by
  have HV := Lib.hid (keyV_short (zs := zs) (p := p) (by omega) (by omega))
  clear hl
  go_enter Try.func28, Try.ntmps28
  go_wp2
  go_ret3
  exact ⟨ret_tup HV.out.symm, rfl⟩
theorem rkey_short (a : Option Addr) (n cap p : Nat) (zs : List Int) (w : World) (hl : zs.length = n) (hm : n ≤ 281474976710656) (hp : p ≤ n) (h : (n : Int) - p < 8) :
    Calls Try.prog 30 #[.slice a n cap, .int .i64 (p : Int)] w fun e w' => e = .returned (keyV (keyD zs p)) ∧ w = w' := by
  have HV := Lib.hid (keyV_short (zs := zs) (p := p) (by omega) (by omega))
  clear hl
  go_enter Try.func30, Try.ntmps30
  go_wp2
  go_ret3
  exact ⟨ret_tup HV.out.symm, rfl⟩

set_option maxHeartbeats 1000000 in
theorem key_good (b off : Nat) (n cap p : Nat) (zs : List Int) (w : World) (hl : zs.length = n) (hz : Byt zs) (h : n ≤ cap) (hm : n ≤ 281474976710656) (hp : p + 8 ≤ n)
    (hcell : ∀ j, j < n → w.cell? ⟨b, off + j, none⟩ = some (.int .u8 (zs.getD j 0))) :
    Calls Try.prog 28 #[.slice (some ⟨b, off, none⟩) n cap, .int .i64 (p : Int)] w fun e w' => e = .returned (keyV (keyD zs p)) ∧ w = w' := by
  have HL := Lib.hid hl
  have HC := Lib.hid hcell
  have HZ := Lib.hid hz
  have HV := Lib.hid (keyV_ok (zs := zs) (p := p) (by omega))
  clear hl hcell hz
  have hge : (8 : Int) ≤ (n : Int) - (p : Int) := by omega
  have hp1 : (p : Int) + 8 ≤ (n : Int) := by omega
  have hpc : p + 8 ≤ cap := by omega
  go_enter Try.func28, Try.ntmps28
  go_wp2
  go_loop [7, 29] (fun x i => ∃ (k : Nat) (U : Int), k ≤ 8 ∧ i = .int .i64 k ∧ x = .int .u64 U ∧ U = ob ((zs.drop p).take k)) (fun _ i => 8 - (intOf i).toNat)
  case atStart => exact ⟨0, 0, by omega, rfl, rfl, rfl⟩
  case round =>
    obtain ⟨k, U, hk, rfl, rfl, hU⟩ := hrel
    have HU := Lib.hid hU
    clear hU
    by_cases hlt : k < 8
    · have hc := HC.out (p + k) (by omega)
      have hb := HZ.out.get (p + k)
      obtain ⟨hu0, hu1, hu2⟩ := ob_at HZ.out hlt (by rw [HL.out]; exact hp)
      have HS := Lib.hid hu2
      rw [← HU.out] at hu0 hu1
      clear hu2
      generalize zs.getD (p + k) 0 = c at hc hb HS
      rw [← Nat.add_assoc] at hc
      obtain ⟨hb0, hb1⟩ := hb
      go_wp2
      have ho := or64_join 8 (U * 256) c (by omega) (by omega) (by omega) hb0 (by omega) (by omega)
      exact ⟨⟨k + 1, 256 * U + c, by omega, by go_num, by rw [ho, Int.mul_comm], by rw [HS.out, HU.out]⟩, by simp [intOf]; omega⟩
    · obtain rfl : k = 8 := by omega
      have HB := Lib.hid (ob8_bd HZ.out (p := p) (by rw [HL.out]; exact hp))
      go_wp2
      go_ret3
      exact ⟨(tup3i (by rw [key_xor _ (by rw [HU.out]; exact HB.out.1) (by rw [HU.out]; exact HB.out.2), HU.out]) rfl).trans (ret_tup HV.out.symm), rfl⟩

set_option maxHeartbeats 1000000 in
theorem rkey_good (b off : Nat) (n cap p : Nat) (zs : List Int) (w : World) (hl : zs.length = n) (hz : Byt zs) (h : n ≤ cap) (hm : n ≤ 281474976710656) (hp : p + 8 ≤ n)
    (hcell : ∀ j, j < n → w.cell? ⟨b, off + j, none⟩ = some (.int .u8 (zs.getD j 0))) :
    Calls Try.prog 30 #[.slice (some ⟨b, off, none⟩) n cap, .int .i64 (p : Int)] w fun e w' => e = .returned (keyV (keyD zs p)) ∧ w = w' := by
  have HL := Lib.hid hl
  have HC := Lib.hid hcell
  have HZ := Lib.hid hz
  have HV := Lib.hid (keyV_ok (zs := zs) (p := p) (by omega))
  clear hl hcell hz
  have hge : (8 : Int) ≤ (n : Int) - (p : Int) := by omega
  have hp1 : (p : Int) + 8 ≤ (n : Int) := by omega
  go_enter Try.func30, Try.ntmps30
  go_wp2
  go_loop [7, 8] (fun x i => ∃ (k : Nat) (U : Int), k ≤ 8 ∧ i = .int .i64 k ∧ x = .int .u64 U ∧ U = ob ((zs.drop p).take k)) (fun _ i => 8 - (intOf i).toNat)
  case atStart => exact ⟨0, 0, by omega, rfl, rfl, rfl⟩
  case round =>
    obtain ⟨k, U, hk, rfl, rfl, hU⟩ := hrel
    have HU := Lib.hid hU
    clear hU
    by_cases hlt : k < 8
    · have hc := HC.out (p + k) (by omega)
      have hb := HZ.out.get (p + k)
      obtain ⟨hu0, hu1, hu2⟩ := ob_at HZ.out hlt (by rw [HL.out]; exact hp)
      have HS := Lib.hid hu2
      rw [← HU.out] at hu0 hu1
      clear hu2
      generalize zs.getD (p + k) 0 = c at hc hb HS
      obtain ⟨hb0, hb1⟩ := hb
      go_wp2
      exact ⟨⟨k + 1, 256 * U + c, by omega, by go_num, rfl, by rw [HS.out, HU.out]⟩, by simp [intOf]; omega⟩
    · obtain rfl : k = 8 := by omega
      go_wp2
      go_ret3
      have HB := Lib.hid (ob8_bd HZ.out (p := p) (by rw [HL.out]; exact hp))
      exact ⟨(tup3i (by rw [key_sub _ (by rw [HU.out]; exact HB.out.1) (by rw [HU.out]; exact HB.out.2), HU.out]) rfl).trans (ret_tup HV.out.symm), rfl⟩

theorem key_any (a : Option Addr) (n cap : Nat) (p : Int) (zs : List Int) (w : World) (h : Bs w a n cap zs) (hm : n ≤ 281474976710656) :
    Calls Try.prog 28 #[.slice a n cap, .int .i64 p] w fun e w' => e = .returned (keyV (keyD zs p)) ∧ w = w' := by
  by_cases hp : p < 0 ∨ (n : Int) < p
  · exact key_bad a n cap p zs w h.len hp
  · obtain ⟨q, rfl⟩ := Int.eq_ofNat_of_zero_le (show 0 ≤ p by omega)
    by_cases hq : (n : Int) - q < 8
    · exact key_short a n cap q zs w h.len hm (by omega) hq
    · obtain ⟨b, off, rfl, _, hc⟩ := h.at_ (by omega)
      exact key_good b off n cap q zs w h.len h.byt h.2.1 hm (by omega) hc
theorem rkey_any (a : Option Addr) (n cap : Nat) (p : Int) (zs : List Int) (w : World) (h : Bs w a n cap zs) (hm : n ≤ 281474976710656) :
    Calls Try.prog 30 #[.slice a n cap, .int .i64 p] w fun e w' => e = .returned (keyV (keyD zs p)) ∧ w = w' := by
  by_cases hp : p < 0 ∨ (n : Int) < p
  · exact rkey_bad a n cap p zs w h.len hp
  · obtain ⟨q, rfl⟩ := Int.eq_ofNat_of_zero_le (show 0 ≤ p by omega)
    by_cases hq : (n : Int) - q < 8
    · exact rkey_short a n cap q zs w h.len hm (by omega) hq
    · obtain ⟨b, off, rfl, _, hc⟩ := h.at_ (by omega)
      exact rkey_good b off n cap q zs w h.len h.byt h.2.1 hm (by omega) hc
end Go.Proofs.Ytcdajfdagdiodaa
