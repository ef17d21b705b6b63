/- ShapeHeightIsBounded over contracts. -/
import Derived.Test.YticfihklfnjeoaaLawShAcc
set_option linter.unusedVariables false
set_option linter.unusedSimpArgs false
namespace Go.Proofs.Yticfihklfnjeoaa
open Go.RowKit
/-- a tree's two children are trees -/
theorem sub_err {A : Ar} (ha : A.Agg) {i : Nat} {t : Tr} (h : Sub A i t) (hi : i ≠ 0) (hb : t.bal = true) (hu : Asc none (t.keys A.nd)) :
    ∃ l r : Tr, A.σ.on i = true ∧ Sub A (A.nd i).left l ∧ Sub A (A.nd i).right r ∧ errT A l = 0 ∧ errT A r = 0 ∧ t.size = l.size + r.size + 1 ∧ t.ht = 1 + max l.ht r.ht := by
  cases h with
  | nil => exact absurd rfl hi
  | node _ l r h0 h1 hl hr =>
    unfold Tr.bal at hb
    simp only [Bool.and_eq_true] at hb
    have hk : (Tr.node i l r).keys A.nd = l.keys A.nd ++ (A.nd i).key :: r.keys A.nd := by simp [Tr.keys, Tr.idx]
    rw [hk, asc_app] at hu
    have hur : Asc none (r.keys A.nd) := by
      have h2 := hu.2
      cases h3 : lastOf none (l.keys A.nd) with
      | none => rw [h3] at h2; exact asc_some h2
      | some k => rw [h3] at h2; exact asc_some h2.2
    exact ⟨l, r, h1, hl, hr, tree_err ha hl hb.1.2 hu.1, tree_err ha hr hb.2 hur, rfl, rfl⟩
theorem planted_ht {A A' : Ar} {held : Nat → Nat} {l : List En} {i : Nat} {t : Tr} (h : Planted A held l A' i t) (hl : l.length ≤ 2147483647) : t.ht ≤ xh l.length := by
  have h1 := balT_ht h.agg h.sub (by rw [balT_bal h.agg h.sub]; exact h.bal)
  rw [h.size] at h1
  exact xh_le hl (by omega)
theorem asc_of {A A' : Ar} {held : Nat → Nat} {l : List En} {i : Nat} {t : Tr} (h : Planted A held l A' i t) (hu : Up l) : Asc none (t.keys A'.nd) := by
  rw [Tr.ents_keys, h.ents]; exact up_asc l none hu (fun k hk => by cases hk)
set_option maxHeartbeats 4000000 in
set_option maxRecDepth 100000 in
theorem bounded_walk (I : AImpl) (N : ShNum) (K : ShMeas I) {a : Option Addr} {n c : Nat} {raw : List En} {tilt : Int} {w : World} (hE : EnsAt w a raw) (hn : raw.length = n) (hnm : n ≤ 9223372036854775807) (ht0 : 0 ≤ tilt) (ht1 : tilt < 18446744073709551616) :
    Calls Try.prog 8 #[.slice a n c, .int .u64 tilt] w (Calm w (.bool true)) := by
  have HK := Lib.hid K
  have HN := Lib.hid N
  have HWF : Hid (∀ y ∈ listE raw 200, i64R y.key ∧ i64R y.val) := fun y hy => hE.wf y (listE_mem hy)
  have HL := Lib.hid (list_any (c := c) (k := 200) hE hn hnm (by decide))
  have HT : Hid (0 ≤ tilt ∧ tilt < 18446744073709551616) := ⟨ht0, ht1⟩
  have HUP := Lib.hid (listE_up raw 200)
  have HLEN := Lib.hid (listE_len raw 200)
  clear K N hE hn hnm ht0 ht1
  go_enter Try.func8, Try.ntmps8
  go_wp2_with fail
  refine HL.out.mono ?_
  intro e w1 hm1
  obtain ⟨a1, c1, rfl, hE1, hb1, hc1, hcm1⟩ := madeEns_at hm1 HWF.out
  have HE1 := Lib.hid hE1
  have HB1 := Lib.hid hb1
  have HC1 : Hid ((listE raw 200).length ≤ c1 ∧ c1 ≤ maxLen) := ⟨hc1, hcm1⟩
  clear hm1 hE1 hb1 hc1 hcm1 HL HWF
  generalize listE raw 200 = l at HUP HLEN HE1 HC1 ⊢
  obtain ⟨L, hL⟩ : ∃ L, l.length = L := ⟨_, rfl⟩
  rw [hL] at HLEN HC1 ⊢
  have HLL := Lib.hid hL
  have hLi : (L : Int) ≤ 200 := by have := HLEN.out; omega
  clear hL
  go_wp2_with fail
  refine (grow_any I (sp := 1) (m := L + 1) HE1.out HLL.out HC1.out.1 HC1.out.2 rfl (by omega) (by have := HLEN.out; omega) HT.out.1 HT.out.2).mono ?_
  rintro e w2 ⟨p, A, i, t, F, rfl, hg⟩
  obtain ⟨pa, rfl⟩ := I.ptr hg.is
  have HM2 : Hid (MS I w.heap.size w w2 (.pointer (some pa)) A 0 (fun _ => False)) := ⟨⟨0, F, hg.is, by omega, by omega, fun k hk => Nat.le_trans HB1.out.size (hg.foot k hk), fun k hk => hk.elim⟩, HB1.out.trans (hg.below.mono HB1.out.size), Nat.le_trans HB1.out.size hg.below.size⟩
  have HP := Lib.hid hg.planted
  clear hg
  have herr := HP.out.err HUP.out
  have hsz := HP.out.size
  rw [HLL.out] at hsz
  have HS : Hid (shK A t = (L : Int) ∧ shH A t = (t.ht : Int) ∧ errT A t = 0) := ⟨by unfold shK; rw [if_pos herr, hsz], by unfold shH; rw [if_pos herr], herr⟩
  have HX : Hid (xhI (L : Int) = (xh L : Int)) := by
    show xhI (L : Int) = _
    unfold xhI
    rw [if_pos ⟨by omega, by omega⟩, Int.toNat_natCast]
  have hht := planted_ht HP.out (by rw [HLL.out]; have := HLEN.out; omega)
  rw [HLL.out] at hht
  have hi4 : i < 4294967296 := by
    rcases HP.out.sub.idx with h | h
    · omega
    · have := HP.out.inv.ok.on i h; have := HP.out.inv.ok.cap2; omega
  have HI4 := Lib.hid hi4
  have HSZ := Lib.hid hsz
  clear herr hsz hi4
  go_wp2_with fail
  refine (awake7_any HN.out w2).mono ?_
  rintro e w3 ⟨rfl, hb3⟩
  have HM3 := Lib.hid (HM2.out.calm hb3)
  clear hb3 HM2
  go_wp2_with fail
  refine (ms_measure HK.out HM3.out (by decide) HP.out.inv HP.out.agg HI4.out).mono ?_
  rintro e w4 ⟨hM4, -, -, he4⟩
  have e4 := he4 t HP.out.sub
  rw [HS.out.1, HS.out.2.1, HS.out.2.2] at e4
  subst e4
  have HM4 := Lib.hid hM4
  clear hM4 he4 HM3
  go_upto_region 6 with fail
  have hB := (HM4.out.box (L : Int) (t.ht : Int)).calm (Below.refl _ _).drew
  generalize w4.alloc (Obj.cells #[Value.int .i64 (L : Int), .int .i64 (t.ht : Int)] 42) = w5 at hB ⊢
  generalize w4.heap.size = g at hB ⊢
  obtain ⟨d0, d1⟩ := two_of hB.box
  obtain ⟨H, hH⟩ : ∃ H, t.ht = H := ⟨_, rfl⟩
  obtain ⟨X, hX⟩ : ∃ X, xh L = X := ⟨_, rfl⟩
  rw [hH] at d1 hB HS hht ⊢
  rw [hX] at hht HX
  have HH := Lib.hid hH
  have HH80 : Hid (H < 80) := by
    have h1 := (xh_spec (n := L) (by have := HLEN.out; omega)).2.1
    show H < 80
    omega
  have hgt : decide ((H : Int) > (X : Int)) = false := decide_eq_false (by omega)
  have hgt2 : decide (X < H) = false := decide_eq_false (by omega)
  have hgt3 : ¬ X < H := by omega
  have hlt : decide ((H : Int) < 0) = false := decide_eq_false (by omega)
  have HLR : Hid (-9223372036854775808 ≤ (L : Int) ∧ (L : Int) ≤ 9223372036854775807) := ⟨by omega, by omega⟩
  clear HM4 hH hX
  go_region_held3 (fun w' => w'.cell? ⟨g, 0, none⟩ = some (.int .i64 (L : Int)) ∧ w'.cell? ⟨g, 1, none⟩ = some (.int .i64 (H : Int))) (go_keep) (
      (go_at_call 12; refine (HN.out.maxHeight (L : Int) _ HLR.out.1 HLR.out.2).mono ?_; rintro e wC ⟨rfl, hbC⟩; have hC := hB.calm hbC; rw [HX.out]; obtain ⟨d0, d1⟩ := two_of hC.box))
  clear hgt hgt2 hgt3 hlt hB d0 d1
  have HC := Lib.hid hC
  clear hC hbC
  by_cases h0 : i = 0
  · have hi0 : ((i : Int) == 0) = true := by simp; exact h0
    have ht0 : H = 0 := by
      have h1 := HP.out.sub
      rw [h0] at h1
      have h2 := HH.out
      cases h1 with
      | nil => exact h2.symm
      | node _ _ _ h3 => exact absurd rfl h3
    have hh0 : ((H : Int) == 0) = true := by simp; exact ht0
    obtain ⟨d0, d1⟩ := two_of HC.out.box
    clear h0 ht0
    go_wp2_with fail
    go_ret
    exact ⟨rfl, HC.out.ms.below⟩
  · have hi0 : ((i : Int) == 0) = false := by simp; exact h0
    obtain ⟨tl, tr, hon, hsl, hsr, herl, herr, hszt, hhtt⟩ := sub_err HP.out.agg HP.out.sub h0 HP.out.bal (asc_of HP.out HUP.out)
    have HON := Lib.hid hon
    have HSL := Lib.hid hsl
    have HSR := Lib.hid hsr
    have HEL : Hid (shK A tl = (tl.size : Int) ∧ shH A tl = (tl.ht : Int) ∧ errT A tl = 0) := ⟨by unfold shK; rw [if_pos herl], by unfold shH; rw [if_pos herl], herl⟩
    have HER : Hid (shK A tr = (tr.size : Int) ∧ shH A tr = (tr.ht : Int) ∧ errT A tr = 0) := ⟨by unfold shK; rw [if_pos herr], by unfold shH; rw [if_pos herr], herr⟩
    have HSZ2 : Hid (tl.size + tr.size + 1 = L ∧ 1 + max tl.ht tr.ht = H) := ⟨by have := HSZ.out; omega, by have := HH.out; omega⟩
    have hx4 : ∀ x, (x = 0 ∨ A.σ.on x = true) → x < 4294967296 := fun x hx => by
      rcases hx with h | h
      · omega
      · have := HP.out.inv.ok.on x h; have := HP.out.inv.ok.cap2; omega
    have HL4 := Lib.hid (hx4 _ hsl.idx)
    have HR4 := Lib.hid (hx4 _ hsr.idx)
    clear h0 hon hsl hsr herl herr hszt hhtt hx4
    go_wp2_with fail
    refine (ms_node HC.out.ms (by decide) HI4.out HON.out).mono ?_
    rintro e w6 ⟨rfl, hM6, hk6⟩
    have hbx6 := (hk6 g rfl).trans HC.out.box
    have HM6 := Lib.hid hM6
    have HX6 := Lib.hid hbx6
    clear hM6 hk6 hbx6
    unfold ndRow
    go_upto_region 11 with fail
    rw [show #[Value.int .i64 (A.nd i).key, .int .i64 (A.nd i).val, .int .u32 ((A.nd i).left : Int), .int .u32 ((A.nd i).right : Int), .int .i64 (A.nd i).size, .int .i64 (A.nd i).sum, .int .i64 (A.nd i).mn, .int .i64 (A.nd i).mx] = ndRow (A.nd i) from rfl]
    have hM7 := HM6.out.alloc (Obj.cells (ndRow (A.nd i)) 47)
    have hN7 := heap_alloc_new w6 (Obj.cells (ndRow (A.nd i)) 47)
    have hX7 := ((below_new7 w6 (Obj.cells (ndRow (A.nd i)) 47)).block g (cells_two HX6.out)).trans HX6.out
    generalize w6.alloc (Obj.cells (ndRow (A.nd i)) 47) = w7 at hM7 hN7 hX7 ⊢
    generalize w6.heap.size = gn at hM7 hN7 ⊢
    have HM7 := Lib.hid hM7
    have HN7 := Lib.hid hN7
    have HX7 := Lib.hid hX7
    have x2 : w7.cell? ⟨gn, 2, none⟩ = some (.int .u32 ((A.nd i).left : Int)) := by rw [cell_of_row _ _ _ _ _ _ hN7]; rfl
    clear hM7 hN7 hX7 HM6 HX6 HC
    go_wp2_with fail
    refine (ms_measure HK.out HM7.out (by decide) HP.out.inv HP.out.agg HL4.out).mono ?_
    rintro e w8 ⟨hM8, hk8, -, he⟩
    have e4 := he tl HSL.out
    rw [HEL.out.1, HEL.out.2.1, HEL.out.2.2] at e4
    subst e4
    have hN8 := (hk8 gn (.inr rfl)).trans HN7.out
    have hX8 := (hk8 g (.inl rfl)).trans HX7.out
    have HM8 := Lib.hid hM8
    have HN8 := Lib.hid hN8
    have HX8 := Lib.hid hX8
    clear hM8 hk8 he x2 hN8 hX8 HM7 HN7 HX7
    go_upto_region 12 with fail
    have hM9 := HM8.out.alloc (Obj.cells #[Value.int .i64 (tl.size : Int), .int .i64 (tl.ht : Int)] 42)
    have hb9 := below_new7 w8 (Obj.cells #[Value.int .i64 (tl.size : Int), .int .i64 (tl.ht : Int)] 42)
    have hL9 := heap_alloc_new w8 (Obj.cells #[Value.int .i64 (tl.size : Int), .int .i64 (tl.ht : Int)] 42)
    have hN9 := (hb9.block gn (HM8.out.lt (.inr rfl))).trans HN8.out
    have hX9 := (hb9.block g (HM8.out.lt (.inl rfl))).trans HX8.out
    generalize w8.alloc (Obj.cells #[Value.int .i64 (tl.size : Int), .int .i64 (tl.ht : Int)] 42) = w9 at hM9 hL9 hN9 hX9 hb9 ⊢
    generalize w8.heap.size = gl at hM9 hL9 hb9 ⊢
    have HM9 := Lib.hid hM9
    have HN9 := Lib.hid hN9
    have HX9 := Lib.hid hX9
    have HL9 := Lib.hid hL9
    have x3 : w9.cell? ⟨gn, 3, none⟩ = some (.int .u32 ((A.nd i).right : Int)) := by rw [cell_of_row _ _ _ _ _ _ hN9]; rfl
    clear hM9 hN9 hX9 hL9 hb9 HM8 HX8 HN8
    go_wp2_with fail
    refine (ms_measure HK.out HM9.out (by decide) HP.out.inv HP.out.agg HR4.out).mono ?_
    rintro e w10 ⟨hM10, hk10, -, he⟩
    have e4 := he tr HSR.out
    rw [HER.out.1, HER.out.2.1, HER.out.2.2] at e4
    subst e4
    have hX10 := (hk10 g (.inl (.inl rfl))).trans HX9.out
    have hL10 := (hk10 gl (.inr rfl)).trans HL9.out
    have HM10 := Lib.hid hM10
    have HX10 := Lib.hid hX10
    have HL10 := Lib.hid hL10
    clear hM10 hk10 he x3 hX10 hL10 HM9 HN9 HX9 HL9
    go_upto_region 13 with fail
    have hM11 := HM10.out.alloc (Obj.cells #[Value.int .i64 (tr.size : Int), .int .i64 (tr.ht : Int)] 42)
    have hb11 := below_new7 w10 (Obj.cells #[Value.int .i64 (tr.size : Int), .int .i64 (tr.ht : Int)] 42)
    have hR11 := heap_alloc_new w10 (Obj.cells #[Value.int .i64 (tr.size : Int), .int .i64 (tr.ht : Int)] 42)
    have hX11 := (hb11.block g (HM10.out.lt (.inl (.inl rfl)))).trans HX10.out
    have hL11 := (hb11.block gl (HM10.out.lt (.inr rfl))).trans HL10.out
    generalize w10.alloc (Obj.cells #[Value.int .i64 (tr.size : Int), .int .i64 (tr.ht : Int)] 42) = w11 at hM11 hR11 hX11 hL11 hb11 ⊢
    generalize w10.heap.size = gr at hM11 hR11 hb11 ⊢
    obtain ⟨x0, x1⟩ := two_of hX11
    obtain ⟨l0, l1⟩ := two_of hL11
    obtain ⟨r0, r1⟩ := two_of hR11
    have HB11 := Lib.hid hM11.below
    obtain ⟨sl, hsl⟩ : ∃ x, tl.size = x := ⟨_, rfl⟩
    obtain ⟨sr, hsr⟩ : ∃ x, tr.size = x := ⟨_, rfl⟩
    obtain ⟨tlh, htl⟩ : ∃ x, tl.ht = x := ⟨_, rfl⟩
    obtain ⟨trh, htr⟩ : ∃ x, tr.ht = x := ⟨_, rfl⟩
    rw [hsl, hsr, htl, htr] at HSZ2
    rw [hsl] at l0
    rw [hsr] at r0
    rw [htl] at l1
    rw [htr] at r1
    have q1 : IntKind.i64.wrap ((sl : Int) + (sr : Int)) = (sl : Int) + (sr : Int) := by rw [IntKind.wrap_i64]; have := HSZ2.out; omega
    have q2 : IntKind.i64.wrap ((sl : Int) + (sr : Int) + 1) = (L : Int) := by rw [IntKind.wrap_i64]; have := HSZ2.out; omega
    have q4 : ((L : Int) == (L : Int)) = true := by simp
    have q5 : ((H : Int) == (H : Int)) = true := by simp
    clear hsl hsr htl htr hX11 hL11 hR11 hM11 hb11 HEL HER
    go_wp2_with fail
    all_goals (
      go_ret
      refine ⟨?_, HB11.out⟩
      have h1 := HSZ2.out
      have h2 := HH80.out
      first
        | (show Ending.returned (Value.bool (wrap64 ((tlh : Int) + 1) == (H : Int))) = _
           rw [show wrap64 ((tlh : Int) + 1) = (H : Int) by unfold wrap64; omega, q5])
        | (show Ending.returned (Value.bool (wrap64 ((trh : Int) + 1) == (H : Int))) = _
           rw [show wrap64 ((trh : Int) + 1) = (H : Int) by unfold wrap64; omega, q5]))
end Go.Proofs.Yticfihklfnjeoaa
