/- The walk of AuditAcceptsArenas. Condition: the program's Check and the statements' build keep their contracts. -/
import Derived.Test.YticmaddcomemhaaAuBuilt
import Derived.Test.YticmaddcomemhaaAuAwake
import Derived.Test.YticmaddcomemhaaAuOk8
set_option linter.unusedVariables false
namespace Go.Proofs.Yticmaddcomemhaa
open Go.RowKit
structure WSame (w wr : World) : Prop where
  eq : wr = w
theorem rch_at {R : Nat → Bool} {i : Nat} (hR : R i = true) : ∀ n, i < n → (rchL R n)[(rchL R i).length]? = some (i + 1)
  | 0, h => by omega
  | n + 1, h => by
    rw [rchL_succ]
    by_cases e : i = n
    · subst e
      rw [if_pos hR, List.getElem?_append_right (Nat.le_refl _)]
      simp
    · have ih := rch_at hR n (by omega)
      rw [List.getElem?_append_left (List.getElem?_eq_some_iff.1 ih).1]
      exact ih
set_option maxHeartbeats 8000000 in
set_option maxRecDepth 100000 in
theorem accepts_walk (hck : PCheckSpec) (hbs : BuildSpec) (cc : Int) (sa : Option Addr) (sm cap : Nat) (w : World) (hv1 : -9223372036854775808 ≤ cc) (hv2 : cc ≤ 9223372036854775807) (hl : Steps6 w sa sm) (hc : sm ≤ cap) (hm : cap ≤ maxLen) :
    Calls Try.prog 4 #[.int .i64 cc, .slice sa sm cap] w (TrueRes6 w) := by
  have hr := Int.emod_nonneg cc (b := 30) (by omega)
  have hr2 := Int.emod_lt_of_pos cc (b := 30) (by omega)
  obtain ⟨r, hr3⟩ := Int.eq_ofNat_of_zero_le hr
  rw [hr3] at hr2
  have hr4 : r < 30 := by omega
  have HR := Lib.hid hr3
  obtain ⟨n, hn⟩ : ∃ n : Nat, n = r + 1 := ⟨_, rfl⟩
  have HN : Hid ((1 : Int) + (r : Int) = (n : Int)) := by show (1 : Int) + (r : Int) = (n : Int); omega
  have hn1 : 1 ≤ n := by omega
  have hn2 : n ≤ 30 := by omega
  have HLI := Lib.hid hl
  have HCK := Lib.hid hck
  have HBS := Lib.hid hbs
  clear hr hr2 hr3 hn hl hck hbs
  go_enter Try.func4, Try.ntmps4
  go_wp2_with fail
  refine (mod_any cc 30 _ hv1 hv2 (by decide) (by decide)).mono ?_
  rintro e w1 ⟨rfl, rfl⟩
  rw [HR.out]
  go_wp2_with fail
  rw [HN.out]
  refine (HBS.out _ n sm cap _ HLI.out hc hm hn1 hn2).mono ?_
  rintro e w2 ⟨A, l, a, b, x, c, d, xc, rfl, hT⟩
  have hb3 := below_new w2 (Obj.cells #[Value.slice a A.σ.cap c, .slice b A.σ.free.length d] 25)
  have hX := DBox.new w2 a b A.σ.cap c A.σ.free.length d
  have HT := Lib.hid hT
  have HB3 := Lib.hid hb3
  have HX := Lib.hid hX
  have hcap30 : A.σ.cap ≤ 30 := by rw [hT.cap]; exact hn2
  obtain ⟨N, hN⟩ : ∃ N, A.σ.cap = N := ⟨_, rfl⟩
  obtain ⟨M, hM⟩ : ∃ M, A.σ.free.length = M := ⟨_, rfl⟩
  obtain ⟨L, hL⟩ : ∃ L, l.length = L := ⟨_, rfl⟩
  have hL61 : L ≤ 61 := by rw [← hL]; exact hT.len
  have hM6 : M ≤ 65536 := by rw [← hM]; exact hT.freelen
  have HNN := Lib.hid hN
  have HMM := Lib.hid hM
  have HLL := Lib.hid hL
  rw [hN] at hcap30 HX HB3
  rw [hM] at HX HB3
  rw [hN, hM, hL]
  have HCL : Hid (chk A.sl N A.σ.free l (onR A) = []) := by show _ = _; rw [← hN]; exact hT.clean
  have HON : Hid (∀ j, j < N → (onR A j = true ↔ Rch A.sl N l (j + 1))) := by show ∀ j, _; rw [← hN]; exact onR_rch hT.inv hT.agg
  clear hT hb3 hX hN hM hL
  have hNi : (N : Int) ≤ 30 := by omega
  go_upto_region 2 with fail
  generalize w2.alloc (Obj.cells #[Value.slice a N c, .slice b M d] 25) = w3 at HX HB3 ⊢
  obtain ⟨q, hq⟩ : ∃ q, w2.heap.size = q := ⟨_, rfl⟩
  rw [hq] at HX ⊢
  have HQ := Lib.hid hq
  clear hq
  have HQL : Hid (q < w3.heap.size) := HX.out.lt
  have HSL : Hid (∀ wx, Below w3.heap.size w3 wx → SlotsAt wx a N A.sl) := fun wx hb => by rw [← HNN.out]; exact HT.out.slots (HB3.out.trans (hb.mono HB3.out.size))
  have HFR : Hid (∀ wx, Below w3.heap.size w3 wx → U32At wx b A.σ.free) := fun wx hb => HT.out.frees (HB3.out.trans (hb.mono HB3.out.size))
  have HRT : Hid (∀ wx, Below w3.heap.size w3 wx → U32At wx x l) := fun wx hb => HT.out.roots (HB3.out.trans (hb.mono HB3.out.size))
  have HXX : Hid (∀ wx, Below w3.heap.size w3 wx → wx.cell? ⟨q, 0, none⟩ = some (.slice a N c) ∧ wx.cell? ⟨q, 1, none⟩ = some (.slice b M d)) := fun wx hb => (HX.out.below hb HQL.out).cells
  have HEND : Hid (∀ wx, Below w3.heap.size w3 wx → TrueRes6 w (.returned (.bool true)) wx) := fun wx hb => ⟨rfl, HT.out.below.trans ((HB3.out.trans (hb.mono HB3.out.size)).mono HT.out.below.size)⟩
  go_wp2_with fail
  refine (awake_any HCK.out w3).mono ?_
  rintro e w4 ⟨rfl, hb4⟩
  obtain ⟨hc0, hc1⟩ := HXX.out _ hb4
  have HB4 := Lib.hid hb4
  clear hb4
  go_wp2_with fail
  refine (pReach_any (b := b) (m := M) (d := d) (c := c) (rc := xc) l HLL.out (HSL.out _ HB4.out) (HRT.out _ HB4.out) (by omega) (by omega) (onR A) HON.out).mono ?_
  rintro e w5 ⟨ra, rc, rfl, hrow, hb5⟩
  have HB5 := Lib.hid (below_chain HB4.out hb5)
  have hlt := rchL_le (onR A) N
  obtain ⟨K, hK⟩ : ∃ K, (rchL (onR A) N).length = K := ⟨_, rfl⟩
  rw [hK] at hrow hlt ⊢
  have HKK := Lib.hid hK
  have HROW := Lib.hid hrow
  have hKi : (K : Int) ≤ 30 := by omega
  clear hc0 hc1 hb5 hrow hK
  obtain ⟨hc0, hc1⟩ := HXX.out _ HB5.out
  go_wp2_with fail
  go_loopw [9, 10] (fun k i wr => ∃ j : Nat, j ≤ N ∧ i = .int .i64 (j : Int) ∧ k = .int .i64 (((rchL (onR A) j).length : Nat) : Int) ∧ WSame w5 wr) (fun k i _ => N - (intOf i).toNat)
  case atStart => exact ⟨0, Nat.zero_le _, rfl, rfl, ⟨rfl⟩⟩
  case round =>
    obtain ⟨j, hj, rfl, rfl, ⟨rfl⟩⟩ := hrel
    by_cases hlt2 : j < N
    · have hji : (j : Int) < (N : Int) := by omega
      have hj0 : (0 : Int) ≤ (j : Int) := by omega
      obtain ⟨b', off, rfl, hlb, d0, _⟩ := (HSL.out _ HB5.out).all hlt2
      have hS := rchL_succ (onR A) j
      have hle := rchL_le (onR A) j
      change wr.cell? ⟨b', off + j * 11, none⟩ = some (.bool (onR A j)) at d0
      cases hon : onR A j
      · rw [hon] at d0
        have hS2 : rchL (onR A) (j + 1) = rchL (onR A) j := by rw [hS, if_neg (by simp [hon]), List.append_nil]
        have HS2 := Lib.hid hS2
        clear hS hS2 hon
        go_wp2
        exact ⟨⟨j + 1, by omega, by go_num, by rw [HS2.out], ⟨rfl⟩⟩, by simp [intOf]; omega⟩
      · rw [hon] at d0
        have hS2 : (rchL (onR A) (j + 1)).length = (rchL (onR A) j).length + 1 := by rw [hS, if_pos hon]; simp
        have hat := rch_at hon N hlt2
        have hkl : (rchL (onR A) j).length < K := by rw [← HKK.out]; exact (List.getElem?_eq_some_iff.1 hat).1
        obtain ⟨g, rfl, hg, hcell⟩ := row_cell HROW.out hkl
        have hcell : wr.cell? ⟨g, (rchL (onR A) j).length, none⟩ = some (.int .u32 ((j : Int) + 1)) := by
          rw [hcell]
          unfold u32s
          rw [List.getElem?_map, hat]
          rfl
        have HS2 := Lib.hid hS2
        have hkw : IntKind.u32.wrap ((j : Int) + 1) = (j : Int) + 1 := by rw [IntKind.wrap_u32']; omega
        generalize (rchL (onR A) j).length = k at hkl hcell HS2 hle ⊢
        have hki : (k : Int) < (K : Int) := by omega
        have hk0 : (0 : Int) ≤ (k : Int) := by omega
        have hne : (((j : Int) + 1) != ((j : Int) + 1)) = false := by simp
        clear hS hS2 hon hat
        go_wp2
        exact ⟨⟨j + 1, by omega, by go_num, by rw [HS2.out]; go_num, ⟨rfl⟩⟩, by simp [intOf]; omega⟩
    · have hjN : j = N := by omega
      rw [hjN, HKK.out]
      clear hlt2 hjN hj
      go_wp2_with fail
      have hcall := HCK.out wr a b x N c M d xc L A.sl A.σ.free l HMM.out HLL.out (HSL.out _ HB5.out) (HFR.out _ HB5.out) (HRT.out _ HB5.out) (by omega) (by omega) (by omega) (onR A) HON.out
      rw [HCL.out] at hcall
      refine hcall.mono ?_
      rintro e w6 ⟨ua, uc, rfl, _, hb6⟩
      have HB6 := Lib.hid (below_chain HB5.out hb6)
      clear hcall hb6 hc0 hc1
      rw [show ([] : List Fd).length = 0 from rfl]
      go_wp2
      go_ret
      exact HEND.out _ HB6.out
end Go.Proofs.Yticmaddcomemhaa
