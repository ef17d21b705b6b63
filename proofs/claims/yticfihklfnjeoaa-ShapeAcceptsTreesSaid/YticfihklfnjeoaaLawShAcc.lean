/- ShapeAcceptsTrees over contracts. -/
import Derived.Test.YticfihklfnjeoaaShMeas
import Derived.Test.YticfihklfnjeoaaKitList
import Derived.Deep.RegionHeld3
set_option linter.unusedVariables false
set_option linter.unusedSimpArgs false
namespace Go.Proofs.Yticfihklfnjeoaa
open Go.RowKit
theorem madeEns_at {w w' : World} {l : List En} {e : Ending} (h : MadeEns w l e w') (hl : ∀ y ∈ l, i64R y.key ∧ i64R y.val) : ∃ a c, e = .returned (.slice a l.length c) ∧ EnsAt w' a l ∧ Below w.heap.size w w' ∧ l.length ≤ c ∧ c ≤ maxLen := by
  obtain ⟨a, c, he, hr, hb⟩ := h
  exact ⟨a, c, he, ens_at hr hl, hb, row_caps hr⟩
set_option maxHeartbeats 4000000 in
set_option maxRecDepth 100000 in
theorem accepts_walk (I : AImpl) (N : ShNum) (K : ShMeas I) {a : Option Addr} {n c : Nat} {raw : List En} {tilt : Int} {w : World} (hE : EnsAt w a raw) (hn : raw.length = n) (hnm : n ≤ 9223372036854775807) (ht0 : 0 ≤ tilt) (ht1 : tilt < 18446744073709551616) :
    Calls Try.prog 7 #[.slice a n c, .int .u64 tilt] w (Calm w (.bool true)) := by
  have HK := Lib.hid K
  have HN := Lib.hid N
  have HWF : Hid (∀ y ∈ listE raw 200, i64R y.key ∧ i64R y.val) := fun y hy => hE.wf y (listE_mem hy)
  have HL := Lib.hid (list_any (c := c) (k := 200) hE hn hnm (by decide))
  have HT : Hid (0 ≤ tilt ∧ tilt < 18446744073709551616) := ⟨ht0, ht1⟩
  have HUP := Lib.hid (listE_up raw 200)
  have HLEN := Lib.hid (listE_len raw 200)
  clear K N hE hn hnm ht0 ht1
  go_enter Try.func7, Try.ntmps7
  go_wp2_with fail
  refine HL.out.mono ?_
  intro e w1 hm1
  obtain ⟨a1, c1, rfl, hE1, hb1, hc1, hcm1⟩ := madeEns_at hm1 HWF.out
  have HE1 := Lib.hid hE1
  have HB1 := Lib.hid hb1
  have HC1 : Hid ((listE raw 200).length ≤ c1 ∧ c1 ≤ maxLen) := ⟨hc1, hcm1⟩
  clear hm1 hE1 hb1 hc1 hcm1 HL HWF
  generalize listE raw 200 = l at HUP HLEN HE1 HC1 ⊢
  obtain ⟨L, hL⟩ : ∃ L, l.length = L := ⟨_, rfl⟩
  rw [hL] at HLEN HC1 ⊢
  have HLL := Lib.hid hL
  have hLi : (L : Int) ≤ 200 := by have := HLEN.out; omega
  clear hL
  go_wp2_with fail
  refine (grow_any I (sp := 1) (m := L + 1) HE1.out HLL.out HC1.out.1 HC1.out.2 rfl (by omega) (by have := HLEN.out; omega) HT.out.1 HT.out.2).mono ?_
  rintro e w2 ⟨p, A, i, t, F, rfl, hg⟩
  obtain ⟨pa, rfl⟩ := I.ptr hg.is
  have HM2 : Hid (MS I w.heap.size w w2 (.pointer (some pa)) A 0 (fun _ => False)) := ⟨⟨0, F, hg.is, by omega, by omega, fun k hk => Nat.le_trans HB1.out.size (hg.foot k hk), fun k hk => hk.elim⟩, HB1.out.trans (hg.below.mono HB1.out.size), Nat.le_trans HB1.out.size hg.below.size⟩
  have HP := Lib.hid hg.planted
  clear hg
  have herr := HP.out.err HUP.out
  have hsz := HP.out.size
  rw [HLL.out] at hsz
  have HS : Hid (shK A t = (L : Int) ∧ shH A t = (t.ht : Int) ∧ errT A t = 0) := ⟨by unfold shK; rw [if_pos herr, hsz], by unfold shH; rw [if_pos herr], herr⟩
  have hi4 : i < 4294967296 := by
    rcases HP.out.sub.idx with h | h
    · omega
    · have := HP.out.inv.ok.on i h; have := HP.out.inv.ok.cap2; omega
  have HI4 := Lib.hid hi4
  clear herr hsz hi4
  go_wp2_with fail
  refine (awake7_any HN.out w2).mono ?_
  rintro e w3 ⟨rfl, hb3⟩
  have HM3 := Lib.hid (HM2.out.calm hb3)
  clear hb3 HM2
  go_wp2_with fail
  refine (ms_measure HK.out HM3.out (by decide) HP.out.inv HP.out.agg HI4.out).mono ?_
  rintro e w4 ⟨hM4, -, -, he4⟩
  have e4 := he4 t HP.out.sub
  rw [HS.out.1, HS.out.2.1, HS.out.2.2] at e4
  subst e4
  have HM4 := Lib.hid hM4
  clear hM4 he4 HM3
  go_upto_region 6 with fail
  have hB := (HM4.out.box (L : Int) (t.ht : Int)).calm (Below.refl _ _).drew
  generalize w4.alloc (Obj.cells #[Value.int .i64 (L : Int), .int .i64 (t.ht : Int)] 42) = w5 at hB ⊢
  generalize w4.heap.size = g at hB ⊢
  obtain ⟨d0, d1⟩ := two_of hB.box
  have hll : ((L : Int) == (L : Int)) = true := by simp
  have hht : ((t.ht : Int) == (t.ht : Int)) = true := by simp
  clear HM4
  go_region_held3 (fun w' => w'.cell? ⟨g, 0, none⟩ = some (.int .i64 (L : Int)) ∧ w'.cell? ⟨g, 1, none⟩ = some (.int .i64 (t.ht : Int))) (go_keep) (first
    | (go_at_call 22; refine (mb_check HK.out (by assumption) (by decide) HP.out.inv HP.out.agg HI4.out HP.out.sub HS.out.2.2).mono ?_; rintro e wC ⟨rfl, hC⟩; obtain ⟨d0, d1⟩ := two_of hC.box)
    | (go_at_call 19; refine (mb_dump (by assumption) HP.out.inv).mono ?_; rintro e wD ⟨da, dc, db, dd, rfl, hD, hSD⟩; obtain ⟨d0, d1⟩ := two_of hD.box)
    | (go_at_call 23; refine (mb_height (by assumption) HP.out.inv HP.out.agg HP.out.sub (by assumption)).mono ?_; rintro e wH ⟨rfl, hH⟩; obtain ⟨d0, d1⟩ := two_of hH.box))
  all_goals (go_wp2_with fail; go_ret; exact ⟨rfl, hH.ms.below⟩)
end Go.Proofs.Yticfihklfnjeoaa
