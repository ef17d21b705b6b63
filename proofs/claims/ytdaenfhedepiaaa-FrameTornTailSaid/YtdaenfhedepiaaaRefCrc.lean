/- The reference's Extend and Checksum return the checksum as plain numbers give it, for every checksum and every slice of bytes. Condition: the slice is shorter than 2 to the 48. They read, and write nothing. -/
import Derived.Test.YtdaenfhedepiaaaBase
import Derived.Test.YtdaenfhedepiaaaCrc
set_option linter.unusedVariables false
namespace Go.Proofs.Ytdaenfhedepiaaa
open Go.RowKit

def nb (zs : List Int) : List Nat := zs.map Int.toNat
/-- the checksum of zs behind a string of checksum c -/
def cs (c : Int) (zs : List Int) : Int := (ext c.toNat (nb zs) : Nat)
theorem nb_byt {zs : List Int} (h : Byt zs) : ∀ b ∈ nb zs, b < 256 := by
  intro b hb
  obtain ⟨z, hz, rfl⟩ := List.mem_map.1 hb
  have := h z hz
  omega
theorem nb_app (xs ys : List Int) : nb (xs ++ ys) = nb xs ++ nb ys := by simp [nb]
theorem nb_len (xs : List Int) : (nb xs).length = xs.length := by simp [nb]
theorem cs_bd (c : Int) (zs : List Int) : 0 ≤ cs c zs ∧ cs c zs < 4294967296 := by
  have := ext_lt c.toNat (nb zs)
  unfold cs; omega
theorem cs_app (xs ys : List Int) (c : Int) (h : Byt xs) : cs (cs c xs) ys = cs c (xs ++ ys) := by
  unfold cs
  rw [Int.toNat_natCast, ext_app _ _ _ (nb_byt h), nb_app]
theorem not32 (c : Int) (h0 : 0 ≤ c) (h1 : c < 4294967296) : bits .xor .u32 IntKind.u32.max c = ((inv c.toNat : Nat) : Int) := by
  have e : IntKind.u32.max = 4294967295 := by decide
  rw [e, u32_xor _ _ (by decide) (by decide) h0 h1, inv_xor (by omega)]
  rfl
theorem xor32 (A : Nat) (z : Int) (hA : A < 4294967296) (h0 : 0 ≤ z) (h1 : z ≤ 255) : bits .xor .u32 (A : Int) z = ((A ^^^ z.toNat : Nat) : Int) := by
  rw [u32_xor _ _ (by omega) (by omega) h0 (by omega), Int.toNat_natCast]
theorem step_odd (Y : Nat) (hY : Y < 4294967296) (h : Y % 2 = 1) : bits .xor .u32 ((Y : Int) / 2) 2197175160 = ((st1 Y : Nat) : Int) := by
  rw [u32_xor _ _ (by omega) (by omega) (by decide) (by decide)]
  unfold st1
  rw [if_pos h]
  have e : ((Y : Int) / 2).toNat = Y / 2 := by omega
  rw [e]
  rfl
theorem step_even (Y : Nat) (h : Y % 2 = 0) : (Y : Int) / 2 = ((st1 Y : Nat) : Int) := by
  unfold st1
  rw [if_neg (by omega)]
  omega
theorem nb_take {zs : List Int} {k : Nat} (hk : k < zs.length) : nb (zs.take (k + 1)) = nb (zs.take k) ++ [(zs[k]?.getD 0).toNat] := by
  rw [List.take_succ_eq_append_getElem hk, nb_app, List.getElem?_eq_getElem hk]; rfl

/-- one byte set to another: another checksum -/
theorem cs_set {L : List Int} {i : Nat} {x : Int} (hi : i < L.length) (hL : Byt L) (h0 : 0 ≤ x) (h1 : x ≤ 255) (hx : x ≠ L[i]?.getD 0) : cs 0 L ≠ cs 0 (L.set i x) := by
  have hz : L[i]?.getD 0 = L[i] := by rw [List.getElem?_eq_getElem hi]; rfl
  have hb := hL L[i] (List.getElem_mem hi)
  rw [hz] at hx
  have e1 : L = L.take i ++ L[i] :: L.drop (i + 1) := by rw [← List.drop_eq_getElem_cons hi, List.take_append_drop]
  have e2 : L.set i x = L.take i ++ x :: L.drop (i + 1) := by rw [List.set_eq_take_append_cons_drop, if_pos hi]
  have n1 : nb L = nb (L.take i) ++ L[i].toNat :: nb (L.drop (i + 1)) := by
    have h := congrArg nb e1
    rw [nb_app] at h
    exact h
  have n2 : nb (L.set i x) = nb (L.take i) ++ x.toNat :: nb (L.drop (i + 1)) := by rw [e2, nb_app]; rfl
  unfold cs
  rw [n1, n2]
  have h := ext_change (0 : Int).toNat (nb (L.take i)) (nb (L.drop (i + 1))) L[i].toNat x.toNat (nb_byt (hL.take i)) (nb_byt (hL.drop (i + 1))) (by omega) (by omega) (by omega)
  intro he
  exact h (by omega)
/-- a bit turned: another byte -/
theorem bit_turn (z a : Int) (h0 : 0 ≤ z) (h1 : z ≤ 255) (ha0 : 0 ≤ a) (ha1 : a < 8) :
    0 ≤ bits .xor .u8 z (IntKind.u8.wrap (2 ^ min (IntKind.u64.wrap a).toNat 8)) ∧ bits .xor .u8 z (IntKind.u8.wrap (2 ^ min (IntKind.u64.wrap a).toNat 8)) ≤ 255 ∧
    bits .xor .u8 z (IntKind.u8.wrap (2 ^ min (IntKind.u64.wrap a).toNat 8)) ≠ z := by
  obtain ⟨k, rfl⟩ := Int.eq_ofNat_of_zero_le ha0
  have hk : k < 8 := by omega
  have e0 : IntKind.u64.wrap (k : Int) = (k : Int) := by rw [IntKind.wrap_u64]; omega
  have e1 : min (IntKind.u64.wrap (k : Int)).toNat 8 = k := by rw [e0, Int.toNat_natCast]; omega
  obtain ⟨V, hV, hV0, hV1⟩ : ∃ V : Nat, IntKind.u8.wrap (2 ^ k) = (V : Int) ∧ 0 < V ∧ V < 256 := by
    match k, hk with
    | 0, _ => exact ⟨1, by decide, by decide, by decide⟩
    | 1, _ => exact ⟨2, by decide, by decide, by decide⟩
    | 2, _ => exact ⟨4, by decide, by decide, by decide⟩
    | 3, _ => exact ⟨8, by decide, by decide, by decide⟩
    | 4, _ => exact ⟨16, by decide, by decide, by decide⟩
    | 5, _ => exact ⟨32, by decide, by decide, by decide⟩
    | 6, _ => exact ⟨64, by decide, by decide, by decide⟩
    | 7, _ => exact ⟨128, by decide, by decide, by decide⟩
  rw [e1, hV]
  obtain ⟨Z, rfl⟩ := Int.eq_ofNat_of_zero_le h0
  rw [u8_xor _ _ h0 (by omega) (by omega) (by omega), Int.toNat_natCast, Int.toNat_natCast]
  have hx : Z ^^^ V < 256 := Nat.xor_lt_two_pow (n := 8) (by omega) (by omega)
  refine ⟨by omega, by omega, fun h => ?_⟩
  have h2 : Z ^^^ V = Z := by omega
  have h3 : V ^^^ Z = 0 ^^^ Z := by rw [Nat.xor_comm, h2, Nat.zero_xor]
  have := xor_inj h3
  omega

set_option maxHeartbeats 1000000 in
theorem refExtend_any (c : Int) (a : Option Addr) (n cap : Nat) (zs : List Int) (w : World) (h0 : 0 ≤ c) (h1 : c < 4294967296) (h : Bs w a n cap zs) (hn : n ≤ 281474976710656) :
    Calls Try.prog 16 #[.int .u32 c, .slice a n cap] w fun e w' => e = .returned (.int .u32 (cs c zs)) ∧ w = w' := by
  have HB := Lib.hid h
  have HN := Lib.hid (not32 c h0 h1)
  clear h
  go_enter Try.func16, Try.ntmps16
  go_wp2
  rw [HN.out]
  go_loop [5, 6] (fun x i => ∃ (k A : Nat), k ≤ n ∧ i = .int .i64 k ∧ x = .int .u32 (A : Int) ∧ A < 4294967296 ∧ A = crun (inv c.toNat) (nb (zs.take k))) (fun _ i => n - (intOf i).toNat)
  case atStart => exact ⟨0, _, Nat.zero_le _, rfl, rfl, inv_lt _, rfl⟩
  case round =>
    obtain ⟨k, A, hk, rfl, rfl, hA, hA2⟩ := hrel
    have HA := Lib.hid hA2
    clear hA2
    by_cases hlt : k < n
    · obtain ⟨b, off, rfl, hbb, hcell⟩ := HB.out.at_ (by omega)
      have hc := hcell k hlt
      have hz := HB.out.byt.get k
      have HS := Lib.hid (nb_take (zs := zs) (k := k) (by rw [HB.out.len]; exact hlt))
      rw [List.getD_eq_getElem?_getD] at hc hz
      generalize zs[k]?.getD 0 = z at hc hz HS
      obtain ⟨hz0, hz1⟩ := hz
      have HX := Lib.hid (xor32 A z hA hz0 hz1)
      have hY0 : A ^^^ z.toNat < 4294967296 := Nat.xor_lt_two_pow (n := 32) (by omega) (by omega)
      clear hcell
      go_wp2
      rw [HX.out]
      go_loop [5, 7] (fun x j => ∃ (m Y : Nat), m ≤ 8 ∧ j = .int .i64 m ∧ x = .int .u32 (Y : Int) ∧ Y < 4294967296 ∧ stN (8 - m) Y = st8 (A ^^^ z.toNat)) (fun _ j => 8 - (intOf j).toNat)
      case atStart => exact ⟨0, _, by omega, rfl, rfl, hY0, rfl⟩
      case round =>
        obtain ⟨m, Y, hm, rfl, rfl, hY, hst⟩ := hrel
        have HT := Lib.hid hst
        clear hst
        by_cases hm8 : m < 8
        · have HT2 : Hid (stN (8 - (m + 1)) (st1 Y) = st8 (A ^^^ z.toNat)) := by
            have e : 8 - m = (8 - (m + 1)) + 1 := by omega
            have h2 := HT.out
            rw [e] at h2
            exact h2
          by_cases ho : Y % 2 = 1
          · have ho1 : ((Y : Int) % 2 == 1) = true := by simp; omega
            have HO := Lib.hid (step_odd Y hY ho)
            clear ho
            go_wp2
            exact ⟨⟨m + 1, st1 Y, by omega, by go_num, by rw [HO.out], st1_lt hY, HT2.out⟩, by simp [intOf]; omega⟩
          · have ho1 : ((Y : Int) % 2 == 1) = false := by simp; omega
            have HO := Lib.hid (step_even Y (by omega))
            clear ho
            go_wp2
            exact ⟨⟨m + 1, st1 Y, by omega, by go_num, by rw [HO.out], st1_lt hY, HT2.out⟩, by simp [intOf]; omega⟩
        · obtain rfl : m = 8 := by omega
          go_wp2
          exact ⟨⟨k + 1, Y, by omega, by go_num, rfl, hY, by rw [HS.out, crun_snoc, ← HA.out]; exact HT.out⟩, by simp [intOf]; omega⟩
    · obtain rfl : k = n := by omega
      have HR := Lib.hid (not32 (A : Int) (by omega) (by omega))
      go_wp2
      go_ret
      refine ⟨?_, rfl⟩
      have e : bits .xor .u32 IntKind.u32.max (A : Int) = cs c zs := by
        rw [HR.out, Int.toNat_natCast, HA.out, List.take_of_length_le (by rw [HB.out.len]; exact Nat.le_refl _)]
        rfl
      exact ret_int e

theorem refChecksum_any (a : Option Addr) (n cap : Nat) (zs : List Int) (w : World) (h : Bs w a n cap zs) (hn : n ≤ 281474976710656) :
    Calls Try.prog 14 #[.slice a n cap] w fun e w' => e = .returned (.int .u32 (cs 0 zs)) ∧ w = w' := by
  go_enter Try.func14, Try.ntmps14
  go_wp2_with fail
  refine (refExtend_any 0 _ _ _ zs _ (by decide) (by decide) h hn).mono ?_
  rintro e w1 ⟨rfl, rfl⟩
  go_wp2
  go_ret
  exact ⟨rfl, rfl⟩
end Go.Proofs.Ytdaenfhedepiaaa
