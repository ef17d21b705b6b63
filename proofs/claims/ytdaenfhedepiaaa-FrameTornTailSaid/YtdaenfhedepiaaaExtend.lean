/- The program's Extend and Checksum return the checksum as plain numbers give it, for every checksum and every slice of bytes. Condition: the slice is shorter than 2 to the 48. They write nothing that was there. -/
import Derived.Test.YtdaenfhedepiaaaFrameCon
import Derived.Test.YtdaenfhedepiaaaRemain
set_option linter.unusedVariables false
namespace Go.Proofs.Ytdaenfhedepiaaa
open Go.RowKit

set_option maxRecDepth 100000 in
set_option maxHeartbeats 1000000 in
theorem extend_any (c : Int) (a : Option Addr) (n cap : Nat) (zs : List Int) (w : World) (h0 : 0 ≤ c) (h1 : c < 4294967296) (h : Bs w a n cap zs) (hn : n ≤ 281474976710656) :
    Calls Try.prog 15 #[.int .u32 c, .slice a n cap] w (Calm w (.int .u32 (cs c zs))) := by
  have hz := zero48
  have hi : (Try.prog.info? 48).map (·.size) = some 256 := by kernel_rfl
  have HI := Lib.hid hi
  clear hi
  have hsg : IntKind.u32.signed = false := rfl
  have hsz : tabV.size = 256 := by simp [tabV]
  have HZ := Lib.hid hsz
  clear hsz
  have HN := Lib.hid (not32 c h0 h1)
  go_enter Try.func15, Try.ntmps15
  go_wp2_with fail
  refine (remainders_any _).mono ?_
  rintro e w1 ⟨rfl, hb1⟩
  go_wp2_with (refine wpList_store_row rfl 48 _ _ rfl w1.heap.size tabV rfl rfl 48 zero256 (heap_alloc_new _ _) (by rw [HI.out, HZ.out]) (by rw [HZ.out]; simp [zero256]) tabV_one ?_)
  rw [HN.out]
  have hg := setRow_heap (w1.alloc (Obj.cells zero256 48)) w1.heap.size _ tabV _ _ (heap_alloc_new _ _)
  have hbl : Below w.heap.size w ((w1.alloc (Obj.cells zero256 48)).setRow w1.heap.size tabV) := below_setRow (hb1.alloc hb1.size _) hb1.size _
  generalize w1.heap.size = g at hg hbl ⊢
  generalize (w1.alloc (Obj.cells zero256 48)).setRow g tabV = wr at hg hbl ⊢
  have HG := Lib.hid hg
  have HB := Lib.hid (h.below hbl)
  have HBL := Lib.hid hbl
  clear hg h hbl hb1 hz hsg
  go_loop [0, 13] (fun x i => ∃ (k A : Nat), k ≤ n ∧ i = .int .i64 k ∧ x = .int .u32 (A : Int) ∧ A < 4294967296 ∧ A = crun (inv c.toNat) (nb (zs.take k))) (fun _ i => n - (intOf i).toNat)
  case atStart => exact ⟨0, _, Nat.zero_le _, rfl, rfl, inv_lt _, rfl⟩
  case round =>
    obtain ⟨k, A, hk, rfl, rfl, hA, hA2⟩ := hrel
    have HA := Lib.hid hA2
    clear hA2
    by_cases hlt : k < n
    · obtain ⟨b, off, rfl, hbb, hcell⟩ := HB.out.at_ (by omega)
      have hc := hcell k hlt
      have hz := HB.out.byt.get k
      have HS := Lib.hid (nb_take (zs := zs) (k := k) (by rw [HB.out.len]; exact hlt))
      rw [List.getD_eq_getElem?_getD] at hc hz
      generalize zs[k]?.getD 0 = z at hc hz HS
      obtain ⟨hz0, hz1⟩ := hz
      clear hcell
      have hyx : bits .xor .u8 ((A : Int) % 256) z = ((A % 256 ^^^ z.toNat : Nat) : Int) := by
        rw [u8_xor _ _ (by omega) (by omega) hz0 (by omega), show ((A : Int) % 256).toNat = A % 256 by omega]
      have hy : A % 256 ^^^ z.toNat < 256 := Nat.xor_lt_two_pow (n := 8) (by omega) (by omega)
      have HST := Lib.hid (st8_byte A z.toNat (by omega))
      generalize A % 256 ^^^ z.toNat = Y at hyx hy HST
      have hyi : (Y : Int) < 256 := by omega
      have hcv : wr.cell? ⟨g, Y, none⟩ = some (.int .u32 ((st8 Y : Nat) : Int)) := by
        rw [cell_of_row _ _ _ _ _ _ HG.out]
        exact tabV_at Y hy
      have hV := st8_lt (x := Y) (by omega)
      generalize st8 Y = V at hcv hV HST
      have HY := Lib.hid hy
      clear hy
      go_wp2
      have hx : bits .xor .u32 ((A : Int) / 256) (V : Int) = ((st8 (A ^^^ z.toNat) : Nat) : Int) := by
        rw [u32_xor _ _ (by omega) (by omega) (by omega) (by omega), HST.out, show ((A : Int) / 256).toNat = A / 256 by omega, Int.toNat_natCast, Nat.xor_comm]
      exact ⟨⟨k + 1, st8 (A ^^^ z.toNat), by omega, by go_num, by rw [hx], st8_lt (Nat.xor_lt_two_pow (n := 32) (by omega) (by omega)), by rw [HS.out, crun_snoc, ← HA.out]⟩, by simp [intOf]; omega⟩
    · obtain rfl : k = n := by omega
      have HR := Lib.hid (not32 (A : Int) (by omega) (by omega))
      go_wp2
      go_ret
      refine ⟨?_, HBL.out⟩
      have e : bits .xor .u32 IntKind.u32.max (A : Int) = cs c zs := by
        rw [HR.out, Int.toNat_natCast, HA.out, List.take_of_length_le (by rw [HB.out.len]; exact Nat.le_refl _)]
        rfl
      exact ret_int e

theorem extend_ok : ExtendOk := fun c a n cap zs w h0 h1 h hn => extend_any c a n cap zs w h0 h1 h (by omega)

theorem checksum_ok : ChecksumOk := by
  intro a n cap zs w h hn
  go_enter Try.func13, Try.ntmps13
  go_wp2_with fail
  refine (extend_any 0 _ _ _ zs _ (by decide) (by decide) h (by omega)).mono ?_
  rintro e w1 ⟨rfl, hb⟩
  go_wp2
  go_ret
  exact ⟨rfl, hb⟩
end Go.Proofs.Ytdaenfhedepiaaa
