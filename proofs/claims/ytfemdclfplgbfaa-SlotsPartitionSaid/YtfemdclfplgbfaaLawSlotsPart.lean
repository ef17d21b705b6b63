/- The walk of SlotsPartition. -/
import Derived.Test.YtfemdclfplgbfaaSlotsG
import Derived.Deep.QuietTactic
set_option linter.unusedVariables false
namespace Go.Proofs.Ytfemdclfplgbfaa
open Go.RowKit

theorem intInfo : (Try.prog.info? 3).map (fun i => (i.zero, i.size, i.bytes)) = some (some (.int .i64 0), 1, 8) := by kernel_rfl
def cntV (l : List Nat) (k j : Nat) : Int := if j ∈ l.take k then 1 else 0
def cnts (n : Nat) (l : List Nat) (k : Nat) : List Value := (List.range (n + 1)).map fun j => .int .i64 (cntV l k j)
theorem cnts_at (n : Nat) (l : List Nat) (k j : Nat) (h : j ≤ n) : (cnts n l k)[j]? = some (.int .i64 (cntV l k j)) := by
  simp [cnts, Nat.lt_succ_of_le h]
theorem cnts_zero (n : Nat) (l : List Nat) : cnts n l 0 = List.replicate (n + 1) (.int .i64 0) := by
  apply List.ext_getElem
  · simp [cnts]
  · intro j h1 h2; simp [cnts, cntV]
theorem cnts_step {n k X : Nat} {l : List Nat} (hn : l.Nodup) (hk : k < l.length) (hX : l.getD k 0 = X) : cntV l k X = 0 ∧ (cnts n l k).set X (.int .i64 1) = cnts n l (k + 1) := by
  have hg : l[k] = X := by rw [← hX, List.getD_eq_getElem?_getD, List.getElem?_eq_getElem hk]; rfl
  have h0 : X ∉ l.take k := by
    intro h
    obtain ⟨i, hi, he⟩ := List.mem_iff_getElem.1 h
    simp only [List.length_take] at hi
    rw [List.getElem_take] at he
    exact List.pairwise_iff_getElem.1 hn i k (by omega) hk (by omega) (he.trans hg.symm)
  refine ⟨by simp [cntV, h0], ?_⟩
  apply List.ext_getElem
  · simp [cnts]
  · intro j h1 h2
    have hj : j < n + 1 := by simpa [cnts] using h2
    rw [List.getElem_set]
    by_cases e : X = j
    · subst e
      rw [if_pos rfl]
      simp [cnts, cntV, List.take_succ_eq_append_getElem hk, hg]
    · rw [if_neg e]
      have e2 : ¬ j = X := fun h => e h.symm
      simp [cnts, cntV, List.take_succ_eq_append_getElem hk, hg, e2]
theorem HasG.store {I : Impl} {B b j : Nat} {w : World} {p v : Value} {σ : St} {G : Nat → Prop} (h : HasG I B w p σ G) (hb : G b) : HasG I B (w.setCell ⟨b, j, none⟩ v) p σ G := by
  obtain ⟨F, h, hF, hG⟩ := h
  refine ⟨F, I.keep h fun k hk => heap_setCell_other _ _ _ _ fun e => ?_, hF, fun k hk => by simpa [World.setCell] using hG k hk⟩
  have e2 : k = b := e
  subst e2
  exact (hF k hk).2 hb
def PartRel (I : Impl) (B : Nat) (w0 w1 : World) (p : Value) (σ : St) (n : Nat) (l : List Nat) (o : Value) (g : Nat) (i : Value) (wr : World) : Prop :=
  ∃ k : Nat, k ≤ l.length ∧ i = .int .i64 (k : Int) ∧ HasG I B wr p σ (fun b => b = g) ∧ wr.ownsRow w1.heap.size 31 1 o l.length (u32s l) ∧
    wr.ownsRow B 3 1 (.slice (some ⟨g, 0, none⟩) (n + 1) (n + 1)) (n + 1) (cnts n l k) ∧ Below B w0 wr
theorem zeros_cnts (n : Nat) (l : List Nat) : (madeCells #[Value.int .i64 0] (n + 1)).toList = cnts n l 0 := by
  rw [toList_madeCells_one, cnts_zero]

set_option maxHeartbeats 2000000 in
set_option maxRecDepth 100000 in
theorem part_walk (I : Impl) (c : Int) (a : Option Addr) (m cap : Nat) (w : World) (h1 : -9223372036854775808 ≤ c) (h2 : c ≤ 9223372036854775807) (hl : CallsIn w a m) (hmc : m ≤ cap) (hm : cap ≤ maxLen) :
    Calls Try.prog 5 #[.int .i64 c, .slice a m cap] w fun e w' => e = .returned (.bool true) ∧ Below w.heap.size w w' := by
  obtain ⟨i0, hi, hz0, hz1, hz2⟩ := info_parts intInfo
  have hr := Int.emod_nonneg c (b := 30) (by omega)
  have hr2 := Int.emod_lt_of_pos c (b := 30) (by omega)
  obtain ⟨r, hr3⟩ := Int.eq_ofNat_of_zero_le hr
  rw [hr3] at hr2
  have hr4 : r < 30 := by omega
  have HR := Lib.hid hr3
  obtain ⟨n, hn⟩ : ∃ n : Nat, n = r + 1 := ⟨_, rfl⟩
  have HN : Hid ((1 : Int) + (r : Int) = (n : Int)) := by have := hn; show (1 : Int) + (r : Int) = (n : Int); omega
  have hn1 : 1 ≤ n := by omega
  have hn2 : n ≤ 30 := by omega
  have hni : (n : Int) ≤ 30 := by omega
  have hni2 : (1 : Int) ≤ (n : Int) := by omega
  have HN1 : Hid ((n : Int) + 1 = ((n + 1 : Nat) : Int)) := Lib.hid rfl
  clear hr hr2 hr3 hn
  go_enter Try.func5, Try.ntmps5
  go_wp2_with fail
  refine (mod_any c 30 _ h1 h2 (by decide) (by decide)).mono ?_
  rintro e w2 ⟨rfl, rfl⟩
  rw [HR.out]
  go_wp2_with fail
  rw [HN.out]
  refine (play_any I a n m cap _ hl hmc hm hn1 (by omega)).mono ?_
  rintro e w1 ⟨pa, σ, rfl, h, hcap, hb⟩
  have HOK := Lib.hid h.ok
  have HCAP := Lib.hid hcap
  clear hcap hl
  go_wp2_with fail
  refine (awake_any I _).mono ?_
  rintro e w2 ⟨rfl, hb2⟩
  have h3 := h.below hb2
  have hbb := hb.trans (hb2.mono hb.size)
  clear h hb hb2
  go_wp2_with (at_make; refine wpList_make_full _ rfl _ _ 53 rfl w.heap.size 3 i0 (.int .i64 0) 1 Try.underlying53 hi hz0 hz1 _ _ _ _ (n + 1) rfl rfl ?c1 ?c2 ?b2 ?b3 hbb.size ?_)
  case c1 => exact HN1.out
  case c2 => exact HN1.out
  case b2 => rw [hz2]; omega
  case b3 => unfold maxLen; omega
  intro w3 hown hgrow
  have hgb : Below w2.heap.size w2 w3 := (Below.refl _ _).grown hgrow (Nat.le_refl _) (fun k h => by cases h)
  have h4 : HasG I w.heap.size w3 (.pointer (some pa)) σ (fun b => b = w2.heap.size) := h3.beside hgb fun k hk => by
    subst hk
    exact ⟨Nat.le_refl _, (row_lt hown _ rfl).2⟩
  have hb3 := hbb.trans (hgb.mono hbb.size)
  have hgs : w2.heap.size < w3.heap.size := (row_lt hown _ rfl).2
  generalize w2.heap.size = g at hown h4 hgs ⊢
  clear h3 hbb hgrow hgb
  go_wp2_with fail
  refine (order_has I h4.has).mono ?_
  rintro e w4 ⟨oa, oc, rfl, ho, hb4⟩
  have h5 := h4.below hb4
  have hown2 := row_below hown hb4
  have hb5 := hb3.trans (hb4.mono hb3.size)
  have hl2 := HOK.out.len
  obtain ⟨l, hl⟩ : ∃ l, l = σ.free := ⟨_, rfl⟩
  rw [← hl] at ho hl2 ⊢
  have HLE := Lib.hid hl
  obtain ⟨N, hN⟩ : ∃ N, N = l.length := ⟨_, rfl⟩
  have HNE := Lib.hid hN
  have hN2 : N ≤ 30 := by rw [HCAP.out] at hl2; omega
  have hN3 : (N : Int) ≤ 30 := by omega
  rw [← hN]
  rw [zeros_cnts n l] at hown2
  clear h4 hown hb3 hl hN hl2 hb4 hN2
  go_wp2
  go_loopw [9] (fun i wr => PartRel I w.heap.size w w3 (.pointer (some pa)) σ n l (.slice oa l.length oc) g i wr) (fun i _ => N - (intOf i).toNat)
  case atStart => exact ⟨0, Nat.zero_le _, rfl, h5, ho, hown2, hb5⟩
  case round =>
    clear h5 ho hown2 hb5
    obtain ⟨k, hk, rfl, hg, ho, hseen, hbr⟩ := hrel
    rw [← HNE.out] at hk
    by_cases hlt : k < N
    · have hkl : k < l.length := by rw [← HNE.out]; exact hlt
      obtain ⟨og, rfl, hogl, hcell⟩ := row_cell ho hkl
      have hcl := hcell.trans (u32s_at hkl)
      have HO := Lib.hid ho
      obtain ⟨X, hX⟩ : ∃ X, l.getD k 0 = X := ⟨_, rfl⟩
      have hXm : X ∈ σ.free := by
        rw [← HLE.out, ← hX, List.getD_eq_getElem?_getD, List.getElem?_eq_getElem hkl]
        exact List.getElem_mem hkl
      have hXb := (HOK.out.free X).1 hXm
      rw [HCAP.out] at hXb
      obtain ⟨hs0, hs1⟩ := cnts_step (n := n) (by rw [HLE.out]; exact HOK.out.nodup) hkl hX
      have hsc := (hseen.cellAt X (by omega)).trans (cnts_at n l k X hXb.2.1)
      rw [hs0] at hsc
      have hsf := hseen.frozenAt X
      have HS1 := Lib.hid hs1
      have HSE := Lib.hid hseen
      rw [hX] at hcl
      have hki : (k : Int) < (N : Int) := by omega
      have hx1 : (1 : Int) ≤ (X : Int) := by omega
      have hx2 : (X : Int) ≤ (n : Int) := by omega
      have hx3 : (X : Int) < (n : Int) + 1 := by omega
      have HX := Lib.hid hX
      clear hcell ho hXm hXb hs0 hs1 hseen hX
      go_wp2
      have hBg : w.heap.size ≤ g := row_from HSE.out g rfl
      have hst := (HSE.out.stored X (Value.int IntKind.i64 1)).1
      rw [HS1.out] at hst
      refine ⟨⟨k + 1, hkl, by go_num, hg.store rfl, row_keep HO.out fun b hb => heap_setCell_other _ _ _ _ fun e => ?_, hst, hbr.setCell hBg _⟩, by simp [intOf]; omega⟩
      have e2 : b = g := e
      have := row_from HO.out b hb
      omega
    · obtain rfl : k = N := by omega
      have hh := hg.has
      have HSE := Lib.hid hseen
      have hki : (k : Int) ≤ (k : Int) := by omega
      rw [HNE.out] at hseen
      clear hg ho hseen
      go_wp2
      go_loopw [10] (fun i wr' => ∃ (j d : Nat), 1 ≤ j ∧ j ≤ n + 1 ∧ i = .int .i64 (j : Int) ∧ wr' = wr.drewN d) (fun i _ => n + 1 - (intOf i).toNat)
      case atStart => exact ⟨1, 0, Nat.le_refl _, by omega, rfl, rfl⟩
      case round =>
        obtain ⟨j, d, hj1, hj2, rfl, rfl⟩ := hrel
        by_cases hlt2 : j ≤ n
        · have hsc := (HSE.out.cellAt j (by omega)).trans (cnts_at n l k j hlt2)
          have hval : cntV l k j = if σ.on j = true then 0 else 1 := by
            unfold cntV
            rw [HNE.out, List.take_length, HLE.out]
            have := HOK.out.free j
            rw [HCAP.out] at this
            cases ho : σ.on j with
            | true => simp [this, ho]
            | false => simp [this, ho, hj1, hlt2]
          rw [hval] at hsc
          have hw : (wr.drewN d).cell? ⟨g, j, none⟩ = _ := hsc
          have hd := hh.below (below_drewN (Below.refl _ _) d)
          generalize hwd : wr.drewN d = wd at hw hd
          have HWD := Lib.hid hwd
          have hji : (j : Int) ≤ (n : Int) := by omega
          have hji2 : (1 : Int) ≤ (j : Int) := by omega
          have hji3 : (j : Int) < (n : Int) + 1 := by omega
          have hji4 : j < n + 1 := by omega
          clear hsc hval hwd
          cases ho : σ.on j with
          | true =>
            rw [ho] at hw
            simp only [if_true] at hw
            have hO := Lib.hid ho
            clear ho
            go_wp2
            go_quiet ((go_at_call 14; exact on_v I hd (i := j) (by omega) hO.out (by first | rfl | omega | (rw [IntKind.wrap_u32]; omega))))
            go_wp2
            exact ⟨⟨j + 1, d + nq, by omega, by omega, by go_num, by rw [← HWD.out, World.drewN_drewN]⟩, by simp [intOf]; omega⟩
          | false =>
            rw [ho] at hw
            simp only [Bool.false_eq_true, if_false] at hw
            have hO := Lib.hid ho
            clear ho
            go_wp2
            go_quiet ((go_at_call 14; exact on_v I hd (i := j) (by omega) hO.out (by first | rfl | omega | (rw [IntKind.wrap_u32]; omega))))
            go_wp2
            exact ⟨⟨j + 1, d + nq, by omega, by omega, by go_num, by rw [← HWD.out, World.drewN_drewN]⟩, by simp [intOf]; omega⟩
        · obtain rfl : j = n + 1 := by omega
          have hd := hh.below (below_drewN (Below.refl _ _) d)
          have hbd := below_drewN hbr d
          generalize wr.drewN d = wd at hd hbd
          have hnon : σ.on 0 = false := by
            cases ho : σ.on 0 with
            | true => have := (HOK.out.on 0 ho).1; omega
            | false => rfl
          have hnon2 : σ.on (n + 1) = false := by
            cases ho : σ.on (n + 1) with
            | true => have := (HOK.out.on (n + 1) ho).2; rw [HCAP.out] at this; omega
            | false => rfl
          have HO1 := Lib.hid hnon
          have HO2 := Lib.hid hnon2
          have hji : (n : Int) < ((n + 1 : Nat) : Int) := by omega
          clear hnon hnon2 hh hbr
          go_wp2_with fail
          refine (count_has I hd).mono ?_
          rintro e w6 ⟨rfl, hb6⟩
          rw [← HLE.out, ← HNE.out]
          have hd2 := hd.below hb6
          have hbd2 := hbd.trans (hb6.mono hbd.size)
          clear hd hbd hb6
          go_wp2_with fail
          refine (on_has I hd2 (i := 0) (by decide) rfl).mono ?_
          rintro e w7 ⟨rfl, hb7⟩
          rw [HO1.out]
          have hd3 := hd2.below hb7
          have hbd3 := hbd2.trans (hb7.mono hbd2.size)
          clear hd2 hbd2 hb7
          go_wp2_with fail
          refine (on_has I hd3 (i := n + 1) (by omega) (by omega)).mono ?_
          rintro e w8 ⟨rfl, hb8⟩
          rw [HO2.out]
          have hbd4 := hbd3.trans (hb8.mono hbd3.size)
          go_wp2
          go_ret
          exact ⟨rfl, hbd4⟩
end Go.Proofs.Ytfemdclfplgbfaa
