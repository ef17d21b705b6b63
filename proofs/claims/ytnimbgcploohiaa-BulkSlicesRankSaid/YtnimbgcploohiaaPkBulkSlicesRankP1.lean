/- Of the proof of PkBulkSlicesRankP: LkCon, Scene, Got, RkCon, Near, BkPl, LawBkRank. -/
import Derived.Test.YtnimbgcploohiaaPk1
import Derived.Test.YtnimbgcploohiaaPk2
import Derived.Test.YtnimbgcploohiaaPk3
import Derived.Test.YtnimbgcploohiaaPk4
import Derived.Test.YtnimbgcploohiaaPk5
import Derived.Test.YtnimbgcploohiaaPk7
import Derived.Deep.QuietTactic
import Derived.Deep.DeepCutAuto
set_option linter.unusedVariables false
set_option linter.unusedSimpArgs false
namespace Go.Proofs.Ytnimbgcploohiaa
open Go.RowKit
section
variable {I : AImpl} {B : Nat} {w0 w w' : World} {p : Value} {A : Ar} {rd : Int} {G : Nat → Prop}
/-- what a call that reads leaves beside boxes -/
def MRes (I : AImpl) (B : Nat) (w0 : World) (p : Value) (A : Ar) (rd bd : Int) (G : Nat → Prop) (v : Value) (w : World) (e : Ending) (w' : World) : Prop :=
  e = .returned v ∧ ∃ rd', MR I B w0 w' p A rd' G ∧ Keeps G w w' ∧ rd ≤ rd' ∧ rd' ≤ rd + bd
theorem mr_call {bd : Int} {v : Value} {f : FuncId} {args : Array Value} (h : MR I B w0 w p A rd G) (hc : ∀ F, I.Is w p A rd F → Calls Try.prog f args w (ReadsTo I p A rd F bd v w)) : Calls Try.prog f args w (MRes I B w0 p A rd bd G v w) := by
  obtain ⟨F, h1, h4, h5⟩ := h.has
  refine (hc F h1).mono ?_
  rintro e w1 ⟨F', rd', he, hal, hI, h6, h7⟩
  have := h.step h4 h5 hal hI
  exact ⟨he, rd', this.1, this.2, h6, h7⟩
end
end Go.Proofs.Ytnimbgcploohiaa
set_option linter.unusedVariables false
set_option linter.unusedSimpArgs false
namespace Go.Proofs.Ytnimbgcploohiaa
open Go.RowKit
section
variable {I : AImpl} {B : Nat} {w0 w w' : World} {p : Value} {A : Ar} {rd rd' : Int} {rs : List Row} {bs : List (Nat × Obj)}
theorem Scn.call {bd : Int} {v : Value} {f : FuncId} {args : Array Value} (h : Scn I B w0 w p A rd rs bs) (hc : ∀ F, I.Is w p A rd F → Calls Try.prog f args w (ReadsTo I p A rd F bd v w)) :
    Calls Try.prog f args w fun e w' => e = .returned v ∧ ∃ rd', Scn I B w0 w' p A rd' rs bs ∧ rd ≤ rd' ∧ rd' ≤ rd + bd := by
  refine (mr_call h.mr hc).mono ?_
  rintro e w1 ⟨he, rd', h1, h2, h3, h4⟩
  exact ⟨he, rd', h.step h1 h2, h3, h4⟩
/-- a box of two numbers -/
theorem Scn.two {g : Nat} {x y : Int} {t : TypeId} (h : Scn I B w0 w p A rd rs bs) (hm : (g, Obj.cells #[.int .i64 x, .int .i64 y] t (0, 0)) ∈ bs) : w.cell? ⟨g, 0, none⟩ = some (.int .i64 x) ∧ w.cell? ⟨g, 1, none⟩ = some (.int .i64 y) ∧ w.frozen? ⟨g, 0, none⟩ = false ∧ w.frozen? ⟨g, 1, none⟩ = false :=
  ⟨(two_ofE (h.boxes _ hm).2).1, (two_ofE (h.boxes _ hm).2).2, frozen_of_row _ _ _ _ _ (h.boxes _ hm).2, frozen_of_row _ _ _ _ _ (h.boxes _ hm).2⟩
end
end Go.Proofs.Ytnimbgcploohiaa
set_option linter.unusedVariables false
set_option linter.unusedSimpArgs false
namespace Go.Proofs.Ytnimbgcploohiaa
open Go.RowKit
def lowE (l : List En) (k : Int) : List En := l.filter fun y => decide (y.key < k)
def highE (l : List En) (k : Int) : List En := l.filter fun y => decide (k < y.key)
end Go.Proofs.Ytnimbgcploohiaa
set_option linter.unusedVariables false
set_option linter.unusedSimpArgs false
namespace Go.Proofs.Ytnimbgcploohiaa
open Go.RowKit
theorem mostJ_le {n : Nat} (h : n ≤ 2147483647) : mostJ n ≤ 492 ∧ 0 ≤ mostJ n := by
  have h1 := (xh_spec h).2.1
  unfold mostJ
  omega
def cntE (l : List En) (lo hi : Int) : Nat := (betE l lo hi).length
theorem cnt_cons (x : En) (t : List En) (lo hi : Int) : cntE (x :: t) lo hi = cntE t lo hi + (if lo ≤ x.key ∧ x.key ≤ hi then 1 else 0) := by
  unfold cntE betE
  rw [List.filter_cons]
  by_cases h : lo ≤ x.key ∧ x.key ≤ hi
  · simp [h]
  · simp [h]
theorem rk_cons (x : En) (t : List En) (k : Int) : rankE (x :: t) k = rankE t k + (if x.key < k then 1 else 0) := by
  unfold rankE
  rw [List.countP_cons]
  by_cases h : x.key < k <;> simp [h]
theorem cnt_rank : ∀ (l : List En) {lo mid : Int}, lo ≤ mid → cntE l lo mid + rankE l lo = rankE l (mid + 1)
  | [], _, _, _ => rfl
  | x :: t, lo, mid, h1 => by
    have ih := cnt_rank t h1
    rw [cnt_cons, rk_cons, rk_cons]
    by_cases a1 : x.key < lo
    · rw [if_neg (by omega), if_pos a1, if_pos (by omega)]; omega
    · by_cases a2 : x.key < mid + 1
      · rw [if_pos (by omega), if_neg a1, if_pos a2]; omega
      · rw [if_neg (by omega), if_neg a1, if_neg a2]; omega
end Go.Proofs.Ytnimbgcploohiaa
set_option linter.unusedVariables false
namespace Go.Proofs.Ytnimbgcploohiaa
theorem selE_nat (l : List En) (j : Nat) : selE l (j : Int) = l[j]? := by unfold selE; rw [if_pos (by omega), Int.toNat_natCast]
end Go.Proofs.Ytnimbgcploohiaa
set_option linter.unusedVariables false
set_option linter.unusedSimpArgs false
namespace Go.Proofs.Ytnimbgcploohiaa
open Go.RowKit
theorem up_parted (p : En → Bool) : ∀ {l : List En}, Up l → (∀ x ∈ l, ∀ y ∈ l, x.key < y.key → p y = true → p x = true) → l = l.filter p ++ l.filter fun y => !p y
  | [], _, _ => rfl
  | x :: t, hu, h => by
    have hu' := List.pairwise_cons.1 hu
    have ih := up_parted p hu'.2 fun y hy z hz => h y (by simp [hy]) z (by simp [hz])
    cases hx : p x with
    | true =>
      rw [List.filter_cons_of_pos hx, List.filter_cons_of_neg (by simp [hx]), List.cons_append, ← ih]
    | false =>
      have hall : ∀ y ∈ t, p y = false := fun y hy => by
        cases hy2 : p y with
        | false => rfl
        | true => have := h x (by simp) y (by simp [hy]) (hu'.1 y hy) hy2; rw [hx] at this; cases this
      have h0 : t.filter p = [] := List.filter_eq_nil_iff.2 fun y hy => by rw [hall y hy]; simp
      have h1 : (t.filter fun y => !p y) = t := List.filter_eq_self.2 fun y hy => by rw [hall y hy]; rfl
      rw [List.filter_cons_of_neg (by simp [hx]), List.filter_cons_of_pos (by simp [hx]), h0, h1]
      rfl
theorem low_rest {l : List En} (hu : Up l) (k : Int) : l = lowE l k ++ l.filter fun y => decide (k ≤ y.key) := by
  have h := up_parted (fun y => decide (y.key < k)) hu fun x _ y _ hxy hy => by simp at hy ⊢; omega
  have e : (l.filter fun y => !decide (y.key < k)) = l.filter fun y => decide (k ≤ y.key) := List.filter_congr fun y _ => by
    by_cases hk : y.key < k
    · simp [hk]
    · simp [hk, Int.not_lt.1 hk]
  rw [e] at h
  exact h
theorem parts_all {l : List En} (hu : Up l) {lo hi : Int} (h : lo ≤ hi) : l = lowE l lo ++ (betE l lo hi ++ highE l hi) := by
  have h1 := low_rest hu lo
  have hur : Up (l.filter fun y => decide (lo ≤ y.key)) := List.Pairwise.filter _ hu
  have h2 := up_parted (fun y => decide (y.key ≤ hi)) hur fun x _ y _ hxy hy => by simp at hy ⊢; omega
  rw [List.filter_filter, List.filter_filter] at h2
  have e1 : (l.filter fun a => decide (a.key ≤ hi) && decide (lo ≤ a.key)) = betE l lo hi := List.filter_congr fun y _ => by
    by_cases ha : y.key ≤ hi <;> by_cases hb : lo ≤ y.key <;> simp [ha, hb]
  have e2 : (l.filter fun a => (!decide (a.key ≤ hi)) && decide (lo ≤ a.key)) = highE l hi := List.filter_congr fun y _ => by
    by_cases ha : y.key ≤ hi
    · simp [ha, Int.not_lt.2 ha]
    · have := Int.not_le.1 ha
      simp [ha, this, show lo ≤ y.key by omega]
  rw [e1, e2] at h2
  rw [← h2]
  exact h1
end Go.Proofs.Ytnimbgcploohiaa
set_option linter.unusedVariables false
set_option linter.unusedSimpArgs false
namespace Go.Proofs.Ytnimbgcploohiaa
open Go.RowKit
theorem slice_all (l : List En) : sliceE l 0 (l.length : Int) = l := by
  unfold sliceE
  rw [if_pos ⟨by omega, by omega, by omega⟩]
  simp
theorem first_all {m : List En} {k : Int} (h : (m.length : Int) ≤ k) : firstE m k = m := by
  unfold firstE
  exact List.take_of_length_le (by omega)
theorem low_len (l : List En) (k : Int) : (lowE l k).length = rankE l k := by unfold lowE rankE; rw [List.countP_eq_length_filter]
theorem slice_ranks {l : List En} (hu : Up l) {lo hi : Int} (h : lo ≤ hi) : sliceE l (rankE l lo : Int) (rankE l (hi + 1) : Int) = betE l lo hi := by
  have h1 := cnt_rank l h
  have h2 := rankE_le l (hi + 1)
  have h3 : cntE l lo hi = (betE l lo hi).length := rfl
  unfold sliceE
  rw [if_pos ⟨by omega, by omega, by omega⟩, Int.toNat_natCast, Int.toNat_natCast, show rankE l (hi + 1) - rankE l lo = (betE l lo hi).length by omega]
  have h4 : l.drop (rankE l lo) = betE l lo hi ++ highE l hi := by
    have h5 := parts_all hu h
    rw [← low_len]
    conv => lhs; rw [h5]
    rw [show (lowE (lowE l lo ++ (betE l lo hi ++ highE l hi)) lo) = lowE l lo by rw [← h5], List.drop_left]
  rw [h4, List.take_left]
theorem bulk_bd {n m : Nat} (h : n ≤ 200) (hm : m ≤ n) : 0 ≤ bulkBd n m ∧ bulkBd n m ≤ 2000 := by
  have h1 := (xh_spec (n := n) (by omega)).2.1
  unfold bulkBd
  exact ⟨by omega, by omega⟩
def BkRel (I : AImpl) (B : Nat) (w0 : World) (p : Value) (A : Ar) (rs : List Row) (L : Nat) (i : Value) (wr : World) : Prop :=
  ∃ (j : Nat) (rd : Int), i = .int .i64 (j : Int) ∧ j ≤ L ∧ 0 ≤ rd ∧ rd ≤ 2000 * ((j : Int) + 1) ∧ Scn I B w0 wr p A rd rs []
set_option maxHeartbeats 8000000 in
set_option maxRecDepth 100000 in
theorem slices_walk (I : AImpl) (K : BkImpl I) (KR : RkImpl I) {a : Option Addr} {n c : Nat} {raw : List En} {tilt : Int} {lo hi : Int} {w : World} (hE : EnsAt w a raw) (hn : raw.length = n) (hnm : n ≤ 9223372036854775807) (ht0 : 0 ≤ tilt) (ht1 : tilt < 18446744073709551616) (hlo : i64R lo) (hhi : i64R hi) :
    Calls Try.prog 5 #[.slice a n c, .int .u64 tilt, .int .i64 lo, .int .i64 hi] w (Calm w (.bool true)) := by
  have HK := Lib.hid K
  have HKR := Lib.hid KR
  have HLH : Hid (i64R lo ∧ i64R hi) := ⟨hlo, hhi⟩
  clear K KR hlo hhi
  have HWF : Hid (∀ y ∈ listE raw 120, i64R y.key ∧ i64R y.val) := fun y hy => hE.wf y (listE_mem hy)
  have HL := Lib.hid (list_any (c := c) (k := 120) hE hn hnm (by decide))
  have HT : Hid (0 ≤ tilt ∧ tilt < 18446744073709551616) := ⟨ht0, ht1⟩
  have HUP := Lib.hid (listE_up raw 120)
  have HLEN := Lib.hid (listE_len raw 120)
  clear hE hn hnm ht0 ht1
  go_enter Try.func5, Try.ntmps5
  go_wp2_with fail
  refine HL.out.mono ?_
  rintro e w1 ⟨a1, c1, rfl, hr1, hb1⟩
  have HR1 := Lib.hid hr1
  have HB1 := Lib.hid hb1
  clear hr1 hb1 HL
  generalize listE raw 120 = l at HUP HLEN HR1 HWF ⊢
  obtain ⟨L, hL⟩ : ∃ L, l.length = L := ⟨_, rfl⟩
  rw [hL] at HLEN HR1 ⊢
  have HLL := Lib.hid hL
  have hLi : (L : Int) ≤ 120 := by have := HLEN.out; omega
  have HE1 := Lib.hid (ens_row hL HR1.out HWF.out)
  have HC1 := Lib.hid (row_caps HR1.out)
  clear hL
  go_wp2_with fail
  refine (grow_any I (sp := 1) (m := L + 1) HE1.out HLL.out HC1.out.1 HC1.out.2 rfl (by omega) (by have := HLEN.out; omega) HT.out.1 HT.out.2).mono ?_
  rintro e w2 ⟨p, A, ri, t, F, rfl, hg⟩
  obtain ⟨pa, rfl⟩ := I.ptr hg.is
  have HTR := Lib.hid (hg.planted.tree HUP.out)
  have HPL := Lib.hid hg.planted
  have HS2 := Lib.hid (Scn.init hg HB1.out HR1.out)
  clear hg HR1 HE1 HC1 HT
  go_wp2_with fail
  refine (awake15_any I HK.out w2).mono ?_
  rintro e w3 ⟨rfl, hb3⟩
  have HS3 := Lib.hid (HS2.out.calm hb3)
  clear hb3 HS2
  have HMOST : Hid (mostJ L ≤ 492 ∧ 0 ≤ mostJ L) := mostJ_le (by have := HLEN.out; omega)
  have HAS : Hid (sliceE l 0 (L : Int) = l) := by show _ = _; rw [← HLL.out]; exact slice_all l
  go_wp2_with fail
  refine (HS3.out.ens (fun F hI => HK.out.slice 0 (L : Int) w3 hI HTR.out HWF.out (by decide) (by decide) ⟨by decide, by decide⟩ ⟨by omega, by omega⟩) (N := L) (by rw [HAS.out]; exact HLL.out)).mono ?_
  rintro e w4 ⟨a4, c4, rd4, rfl, hs4, h40, h41⟩
  rw [HAS.out] at hs4 h41
  have hbd := bulk_bd (n := l.length) (m := l.length) (by have := HLL.out; have := HLEN.out; omega) (Nat.le_refl _)
  have HRD4 : Hid (0 ≤ rd4 ∧ rd4 ≤ 2000) := ⟨h40, by omega⟩
  clear HS3 h40 h41 hbd HAS
  obtain ⟨rs, hrs⟩ : ∃ rs : List Row, rs = [(⟨58, 2, .slice a4 L c4, L, ensV l⟩ : Row), ⟨58, 2, .slice a1 L c1, L, ensV l⟩] := ⟨_, rfl⟩
  rw [← hrs] at hs4
  have HROW : Hid ((⟨58, 2, .slice a4 L c4, L, ensV l⟩ : Row) ∈ rs) := by show _ ∈ _; rw [hrs]; simp
  have HR0 : Hid (BkRel I w.heap.size w (.pointer (some pa)) A rs L (.int .i64 0) w4) := ⟨0, rd4, rfl, Nat.zero_le _, HRD4.out.1, by have := HRD4.out; omega, hs4⟩
  clear hs4 hrs
  go_wp2_with fail
  go_loopw [14] (fun i wr => BkRel I w.heap.size w (.pointer (some pa)) A rs L i wr) (fun i _ => L - (intOf i).toNat)
  case atStart => exact HR0.out
  case round =>
    clear HR0
    obtain ⟨j, rd, rfl, hj, hrd0, hrd1, hS⟩ := hrel
    have HS := Lib.hid hS
    have HRD : Hid (0 ≤ rd ∧ rd ≤ 2000 * ((j : Int) + 1) ∧ j ≤ L) := ⟨hrd0, hrd1, hj⟩
    have hj0 : (0 : Int) ≤ (j : Int) := by omega
    clear hS hj hrd0 hrd1
    by_cases hlt : j < L
    · have hji : (j : Int) < (L : Int) := by omega
      obtain ⟨e, he⟩ : ∃ e, l[j]? = some e := ⟨_, List.getElem?_eq_getElem (by have := HLL.out; omega)⟩
      have HSE : Hid (selE l (j : Int) = some e) := (selE_nat l j).trans he
      have HLT := Lib.hid hlt
      have HHE := Lib.hid he
      have hLL : ((L : Int) != (L : Int)) = false := by simp
      clear he hlt
      go_wp2_with fail
      refine (HS.out.call fun F hI => HKR.out.select (j : Int) _ hI HTR.out HRD.out.1 (by have := HRD.out; have := HLEN.out; omega) ⟨by omega, by have := HLEN.out; have := HLT.out; omega⟩).mono ?_
      rintro e4 w5 ⟨rfl, rd5, hs5, hr0, hr1⟩
      rw [HLL.out] at hr1
      have HRD5 : Hid (0 ≤ rd5 ∧ rd5 ≤ 2000 * ((j + 1 : Nat) : Int) + 2000) := by have h1 := HRD.out; have h2 := HMOST.out; exact ⟨by omega, by omega⟩
      rw [HSE.out]
      unfold enR enA
      have hs6 := hs5.box #[.int .i64 e.key, .int .i64 e.val] 58
      clear hs5 hr0 hr1
      go_upto_region 10 with fail
      generalize w5.alloc (Obj.cells #[.int .i64 e.key, .int .i64 e.val] 58) = w6 at hs6 ⊢
      generalize w5.heap.size = g at hs6 ⊢
      obtain ⟨x0, x1, f0, f1⟩ := hs6.two (g := g) (x := e.key) (y := e.val) (t := 58) (by simp)
      obtain ⟨b, off, rfl, hb, c0, c1⟩ := (ens_row (w := w6) (B := w.heap.size) HLL.out (hs6.rows _ HROW.out) HWF.out).cell j e HHE.out
      have HS6 := Lib.hid hs6
      clear hs6 hb
      go_quiet (fail)
      rename Nat => d7
      have HS7 : Hid (Scn I w.heap.size w (w6.drewN d7) (.pointer (some pa)) A rd5 rs []) := (HS6.out.calm (below_drewN (Below.refl _ _) d7)).less (List.Sublist.refl _) (List.nil_sublist _)
      generalize w6.drewN d7 = w7 at HS7 ⊢
      clear x0 x1 f0 f1 c0 c1 HS6
      go_wp2_with fail
      exact ⟨⟨j + 1, rd5, by go_num, by have := HLT.out; omega, HRD5.out.1, by have := HRD5.out; omega, HS7.out⟩, by have := HLT.out; simp [intOf]; omega⟩
    · have hji : ¬ (j : Int) < (L : Int) := by omega
      have HRD3 : Hid (0 ≤ rd ∧ rd ≤ 1000000) := by have h1 := HRD.out; have h2 := HLEN.out; exact ⟨h1.1, by omega⟩
      clear hlt
      by_cases hlh : hi < lo
      · have q1 : decide (lo > hi) = true := decide_eq_true hlh
        have q2 : decide (hi < lo) = true := decide_eq_true hlh
        clear hlh
        go_wp2_with fail
        go_ret
        exact ⟨rfl, HS.out.below⟩
      · have q1 : decide (lo > hi) = false := decide_eq_false hlh
        have q2 : decide (hi < lo) = false := decide_eq_false hlh
        have hle : lo ≤ hi := by omega
        by_cases hmx : hi = 9223372036854775807
        · have q3 : (hi == 9223372036854775807) = true := by simp [hmx]
          clear hlh hle hmx
          go_wp2_with fail
          go_ret
          exact ⟨rfl, HS.out.below⟩
        · have q3 : (hi == 9223372036854775807) = false := by simp [hmx]
          have hh1 : i64R (hi + 1) := by have := HLH.out.2; unfold i64R at *; omega
          have hw1 : IntKind.i64.wrap (hi + 1) = hi + 1 := by rw [IntKind.wrap_i64]; unfold i64R at hh1; omega
          have hw2 : IntKind.i64.wrap ((L : Int) + 1) = (L : Int) + 1 := by rw [IntKind.wrap_i64]; omega
          have HH1 := Lib.hid hh1
          have hbl : (betE l lo hi).length ≤ L := by rw [← HLL.out]; exact List.length_filter_le _ _
          obtain ⟨V, hV⟩ : ∃ V, (betE l lo hi).length = V := ⟨_, rfl⟩
          rw [hV] at hbl
          have HF : Hid (firstE (betE l lo hi) ((L : Int) + 1) = betE l lo hi) := first_all (by omega)
          have HSL : Hid (sliceE l (rankE l lo : Int) (rankE l (hi + 1) : Int) = betE l lo hi) := slice_ranks HUP.out hle
          have HV : Hid ((betE l lo hi).length = V ∧ V ≤ L ∧ WfL (betE l lo hi)) := ⟨hV, hbl, bet_wf HWF.out lo hi⟩
          have HRK : Hid (i64R (rankE l lo : Int) ∧ i64R (rankE l (hi + 1) : Int)) := by
            have h1 := rankE_le l lo
            have h2 := rankE_le l (hi + 1)
            have h3 := HLL.out
            exact ⟨⟨by omega, by omega⟩, ⟨by omega, by omega⟩⟩
          obtain ⟨R1, hR1⟩ : ∃ R, rankE l lo = R := ⟨_, rfl⟩
          obtain ⟨R2, hR2⟩ : ∃ R, rankE l (hi + 1) = R := ⟨_, rfl⟩
          rw [hR1, hR2] at HSL HRK
          have HR1 := Lib.hid hR1
          have HR2 := Lib.hid hR2
          clear hlh hle hmx hh1 hbl hV hR1 hR2
          go_wp2_with fail
          refine (HS.out.call fun F hI => HKR.out.rank lo _ hI HTR.out HRD3.out.1 (by have := HRD3.out; omega) HLH.out.1).mono ?_
          rintro e w8 ⟨rfl, rd8, hs8, hr0, hr1⟩
          rw [HLL.out] at hr1
          rw [HR1.out]
          have HS8 := Lib.hid hs8
          have HRD8 : Hid (0 ≤ rd8 ∧ rd8 ≤ 1001000) := by have h1 := HRD3.out; have h2 := HMOST.out; exact ⟨by omega, by omega⟩
          clear hs8 hr0 hr1
          go_wp2_with fail
          refine (HS8.out.call fun F hI => HKR.out.rank (hi + 1) _ hI HTR.out HRD8.out.1 (by have := HRD8.out; omega) HH1.out).mono ?_
          rintro e w9 ⟨rfl, rd9, hs9, hr0, hr1⟩
          rw [HLL.out] at hr1
          rw [HR2.out]
          have HS9 := Lib.hid hs9
          have HRD9 : Hid (0 ≤ rd9 ∧ rd9 ≤ 1002000) := by have h1 := HRD8.out; have h2 := HMOST.out; exact ⟨by omega, by omega⟩
          clear hs9 hr0 hr1 HS HS8
          go_wp2_with fail
          refine (HS9.out.ens (fun F hI => HK.out.range lo hi ((L : Int) + 1) _ hI HTR.out HRD9.out.1 (by have := HRD9.out; omega) HLH.out.1 HLH.out.2 ⟨by omega, by omega⟩) (N := V) (by rw [HF.out]; exact HV.out.1)).mono ?_
          rw [HF.out]
          rintro e w10 ⟨a10, c10, rd10, rfl, hs10, h100, h101⟩
          have hbd := bulk_bd (n := l.length) (m := (betE l lo hi).length) (by have := HLL.out; have := HLEN.out; omega) (by rw [HV.out.1, HLL.out]; exact HV.out.2.1)
          have HS10 := Lib.hid hs10
          have HRD10 : Hid (0 ≤ rd10 ∧ rd10 ≤ 1005000) := by have h1 := HRD9.out; exact ⟨by omega, by omega⟩
          clear hs10 h100 h101 hbd HS9
          go_wp2_with fail
          refine (HS10.out.ens (fun F hI => HK.out.slice (R1 : Int) (R2 : Int) _ hI HTR.out HWF.out HRD10.out.1 (by have := HRD10.out; omega) HRK.out.1 HRK.out.2) (N := V) (by rw [HSL.out]; exact HV.out.1)).mono ?_
          rw [HSL.out]
          rintro e w11 ⟨a11, c11, rd11, rfl, hs11, -, -⟩
          have HS11 := Lib.hid hs11
          clear hs11 HS10
          go_wp2_with fail
          refine (same_ens (ens_row (w := w11) (B := w.heap.size) HV.out.1 (HS11.out.rows ⟨58, 2, .slice a10 V c10, V, ensV (betE l lo hi)⟩ (by simp)) HV.out.2.2) (ens_row (w := w11) (B := w.heap.size) HV.out.1 (HS11.out.rows ⟨58, 2, .slice a11 V c11, V, ensV (betE l lo hi)⟩ (by simp)) HV.out.2.2) HV.out.1 (by have := HV.out; have := HLEN.out; omega)).mono ?_
          rintro e w12 ⟨rfl, hb12⟩
          have HB12 : Hid (Below w.heap.size w w12) := (HS11.out.calm hb12).below
          clear hb12 HS11
          go_wp2_with fail
          go_ret
          exact ⟨rfl, HB12.out⟩
end Go.Proofs.Ytnimbgcploohiaa
