/- ShapeChecks over contracts. -/
import Derived.Test.YticfihklfnjeoaaShSide
set_option linter.unusedVariables false
set_option linter.unusedSimpArgs false
namespace Go.Proofs.Yticfihklfnjeoaa
open Go.RowKit
theorem checks_pair (w : World) (x y : Value) (t : TypeId) (hx : x.oneCell' = true) (hy : y.oneCell' = true) : (w.alloc (.cells #[x, y] t)).ownsRow w.heap.size t 1 (.slice (some ⟨w.heap.size, 0, none⟩) 2 2) 2 [x, y] :=
  ⟨rfl, .inr ⟨w.heap.size, 2, #[x, y], rfl, Nat.le_refl _, heap_alloc_new w _, Nat.le_refl _, by unfold maxLen; omega, rfl, rfl⟩⟩
def KRel (I : AImpl) (B : Nat) (w0 : World) (p : Value) (A : Ar) (q : Nat) (da db ta : Option Addr) (dc dd tc : Nat) (xs : List Nat) (i : Value) (wr : World) : Prop :=
  ∃ k : Nat, i = .int .i64 (k : Int) ∧ k ≤ xs.length ∧ CS I B w0 wr p A (33554432 * (k : Int)) q da db ta dc dd tc xs (fun _ => False)
set_option maxHeartbeats 8000000 in
set_option maxRecDepth 100000 in
theorem checks_walk (I : AImpl) (N : ShNum) (K : ShMeas I) (a : Option Addr) (m cap : Nat) (raw : Int) (w : World) (hl : Steps7 w a m) (hc : m ≤ cap) (hm : cap ≤ maxLen) (hr0 : 0 ≤ raw) (hr1 : raw < 4294967296) :
    Calls Try.prog 6 #[.slice a m cap, .int .u32 raw] w (Calm w (.bool true)) := by
  obtain ⟨i0, ji, jz0, jz1, jz2⟩ := info_parts uInfo
  obtain ⟨rw0, rfl⟩ := Int.eq_ofNat_of_zero_le hr0
  have HK := Lib.hid K
  have HN := Lib.hid N
  have HRW : Hid (rw0 < 4294967296) := by show rw0 < _; omega
  have HBLD := Lib.hid (build7_any I a m cap w hl hc hm)
  clear K N hl hc hm hr0 hr1
  go_enter Try.func6, Try.ntmps6
  go_wp2_with fail
  refine HBLD.out.mono ?_
  rintro e w1 ⟨p, A, xa, xc, l, rfl, hcap, hl0, hl41, hT⟩
  obtain ⟨F0, hI0, hF0, hFx0⟩ := hT.has
  obtain ⟨pa, rfl⟩ := I.ptr hI0
  have HT := Lib.hid hT
  have HCAP := Lib.hid hcap
  have HL := Lib.hid (show 0 < l.length ∧ l.length ≤ 41 from ⟨hl0, hl41⟩)
  clear hT hI0 hF0 hFx0 hcap hl0 hl41 HBLD
  go_wp2_with fail
  refine (awake7_any HN.out w1).mono ?_
  rintro e w2 ⟨rfl, hb2⟩
  have HT2 := Lib.hid (HT.out.calm hb2)
  clear hb2 HT
  obtain ⟨F, hI, hF, hFx⟩ := HT2.out.has
  have HI := Lib.hid hI
  have HFF := Lib.hid hF
  have HFX := Lib.hid hFx
  clear hI hF hFx
  go_wp2_with fail
  refine (I.dump _ A 0 F w2 HI.out).mono ?_
  rintro e w3 ⟨da, dc, db, dd, rfl, hs3, hf3, hb3⟩
  have HT3 := Lib.hid (HT2.out.calm hb3)
  have HS3 := Lib.hid hs3
  have HF3 := Lib.hid hf3
  have HB3 := Lib.hid hb3
  clear hs3 hf3 hb3
  go_upto_region 5 with fail
  have hb4 := below_new7 w3 (Obj.cells #[Value.slice da A.σ.cap dc, .slice db A.σ.free.length dd] 37)
  have hbx4 := heap_alloc_new w3 (Obj.cells #[Value.slice da A.σ.cap dc, .slice db A.σ.free.length dd] 37)
  generalize w3.alloc (Obj.cells #[Value.slice da A.σ.cap dc, .slice db A.σ.free.length dd] 37) = w4 at hb4 hbx4 ⊢
  have hT4 := HT3.out.calm hb4
  have hB24 : Below w2.heap.size w2 w4 := HB3.out.trans (hb4.mono HB3.out.size)
  obtain ⟨q, hq⟩ : ∃ q, w3.heap.size = q := ⟨_, rfl⟩
  rw [hq] at hb4 hbx4 ⊢
  have hq2 : w2.heap.size ≤ q := by rw [← hq]; exact HB3.out.size
  have hs4 := row_below HS3.out (by rw [hq]; exact hb4)
  have hf4 := row_below HF3.out (by rw [hq]; exact hb4)
  have HBX4 := Lib.hid hbx4
  have HS4 := Lib.hid hs4
  have HF4 := Lib.hid hf4
  have HB24 := Lib.hid hB24
  have HQ2 := Lib.hid hq2
  have HT4 := Lib.hid hT4
  obtain ⟨g, rfl, hg, _⟩ := row_cell hT4.row (show 0 < l.length from HL.out.1)
  clear hb4 hbx4 hT4 hB24 hq hq2 hs4 hf4 HS3 HF3 HB3 HT3 hg
  obtain ⟨L, hL⟩ : ∃ L, l.length = L := ⟨_, rfl⟩
  rw [hL]
  have HLL := Lib.hid hL
  have hLi : (L : Int) ≤ 41 := by have := HL.out; omega
  have hu1 : IntKind.u32.wrap (L : Int) = (L : Int) := by rw [IntKind.wrap_u32]; omega
  have hu2 : IntKind.u32.wrap ((L : Int) + 1) = ((L + 1 : Nat) : Int) := by rw [IntKind.wrap_u32]; omega
  have hrow2 := checks_pair w4 (.int .u32 (rw0 : Int)) (.int .u32 ((L + 1 : Nat) : Int)) 30 rfl rfl
  have hb5 := below_new7 w4 (Obj.cells #[Value.int .u32 (rw0 : Int), .int .u32 ((L + 1 : Nat) : Int)] 30)
  have hnews : ∀ j u, (u32s l)[j]? = some u → (w4.alloc (Obj.cells #[Value.int .u32 (rw0 : Int), .int .u32 ((L + 1 : Nat) : Int)] 30)).cell? ((⟨g, 0, none⟩ : Addr).add j) = some u := by
    intro j u hu
    have hj : j < l.length := by have := (List.getElem?_eq_some_iff.1 hu).1; rwa [u32s_len] at this
    have h1 := (row_below HT4.out.row hb5).cellAt j (by omega)
    rw [add_at, Nat.zero_add, ← hu]
    exact h1
  have HB5 := Lib.hid hb5
  clear hL hb5
  go_wp2_with (at_builtin; refine wpList_append_own_at _ rfl (.tmp 34) (.tmp 35) 32 rfl w4.heap.size 30 i0 (.int .u32 0) 1 4 Try.underlying32 ji jz0 jz1 jz2 rfl (by decide) _ 2 [.int .u32 (rw0 : Int), .int .u32 ((L + 1 : Nat) : Int)] rfl hrow2 ⟨g, 0, none⟩ L xc (u32s l) rfl (by rw [u32s_len, HLL.out]; omega) hnews (u32s_ones l) (by unfold maxLen; omega) (by omega) (Nat.le_of_lt (by simp)) ?_; intro v6 w6 ho6 hg6 _ hv6)
  obtain ⟨va, vc, rfl⟩ := row_val ho6
  have hlen : (rw0 :: (L + 1) :: l).length = 2 + L := by rw [List.length_cons, List.length_cons, HLL.out]; omega
  have hB46 : Below w4.heap.size w4 w6 := HB5.out.grown hg6 (Nat.le_of_lt (by simp)) (fun k hk => by have h : some w4.heap.size = some k := hk; cases h; exact Nat.le_refl _)
  have hB26 : Below w2.heap.size w2 w6 := HB24.out.trans (hB46.mono HB24.out.size)
  have hq4 : q < w4.heap.size := (Array.getElem?_eq_some_iff.1 HBX4.out).1
  have hCS : CS I w.heap.size w w6 (.pointer (some pa)) A 0 q da db va dc dd vc (rw0 :: (L + 1) :: l) (fun _ => False) := by
    refine ⟨⟨⟨0, F, I.below HI.out hB26, by omega, by omega, HFF.out, fun k hk => ?_⟩, HT2.out.below.trans (hB26.mono HT2.out.hB), Nat.le_trans HT2.out.hB hB26.size⟩, (hB46.block q hq4).trans HBX4.out, row_mono (row_below HS4.out hB46) HT2.out.hB, row_mono (row_below HF4.out hB46) HT2.out.hB, ?_⟩
    · have hd : ∀ j, F j → j < w2.heap.size := I.dom HI.out
      have h24 := HB24.out.size
      have h46 := hB46.size
      rcases hk with (hk | hk | hk | hk) | hk
      · subst hk
        exact ⟨by omega, fun hF => by have := hd _ hF; have := HQ2.out; omega⟩
      · have h1 := row_lt HS4.out k hk
        exact ⟨by omega, fun hF => by have := hd _ hF; omega⟩
      · have h1 := row_lt HF4.out k hk
        exact ⟨by omega, fun hF => by have := hd _ hF; omega⟩
      · have h1 := row_lt ho6 k (by rw [← hlen]; exact hk)
        exact ⟨h1.2, fun hF => by have := hd _ hF; omega⟩
      · exact hk.elim
    · rw [hlen]
      exact row_mono ho6 (Nat.le_trans HT2.out.hB HB24.out.size)
  have HXS : Hid (∀ y ∈ rw0 :: (L + 1) :: l, y < 4294967296) := by
    intro y hy
    rcases List.mem_cons.1 hy with rfl | hy
    · exact HRW.out
    · rcases List.mem_cons.1 hy with rfl | hy
      · have := HL.out; have := HLL.out; omega
      · exact idx_lt4 HT2.out.inv y hy
  have HCS := Lib.hid hCS
  have HXL := Lib.hid hlen
  have HINV := Lib.hid HT2.out.inv
  have HAGG := Lib.hid HT2.out.agg
  generalize rw0 :: (L + 1) :: l = xs at HCS HXS HXL
  obtain ⟨T, hT⟩ : ∃ T, 2 + L = T := ⟨_, rfl⟩
  rw [hT] at HXL ⊢
  have hTi : (T : Int) ≤ 43 := by omega
  have hT43 : T ≤ 43 := by omega
  have HT43 := Lib.hid hT43
  clear hCS hlen hB46 hB26 hq4 ho6 hg6 hv6 hrow2 hnews hu1 hu2 hLi HT2 HT4 HS4 HF4 HB24 HQ2 HBX4 HB5 HLL HL HI HFF HFX hT hT43 HRW
  go_loopw [10] (fun i wr => KRel I w.heap.size w (.pointer (some pa)) A q da db va dc dd vc xs i wr) (fun i _ => T - (intOf i).toNat)
  case atStart => exact ⟨0, rfl, Nat.zero_le _, by have := HCS.out; rw [show (33554432 * ((0 : Nat) : Int)) = 0 from rfl]; exact this⟩
  case round =>
    clear HCS
    obtain ⟨k, rfl, hk, hC⟩ := hrel
    have HC := Lib.hid hC
    have HKT : Hid (k ≤ T) := by show k ≤ T; have := HXL.out; omega
    have hk0 : (0 : Int) ≤ (k : Int) := by omega
    clear hC hk
    by_cases hlt : k < T
    · have hki : (k : Int) < (T : Int) := by omega
      obtain ⟨i, hi⟩ : ∃ i, xs[k]? = some i := ⟨_, List.getElem?_eq_getElem (by have := HXL.out; omega)⟩
      have HXI := Lib.hid hi
      have HI4 := Lib.hid (HXS.out i (List.mem_of_getElem? hi))
      obtain ⟨tb, rfl, htb, _⟩ := row_cell HC.out.tr (show k < xs.length by have := HXL.out; omega)
      obtain ⟨er, kk, hh, hAns⟩ := ans_get HINV.out HAGG.out i
      have HA := Lib.hid hAns
      have HTOP : Hid (33554432 * (k : Int) + 33554432 ≤ 1099511627776 ∧ 33554432 * (k : Int) ≤ 1099511627776) := by have := HT43.out; exact ⟨by omega, by omega⟩
      have HLT := Lib.hid hlt
      clear hi htb hAns hlt
      go_upto_region 9 with fail
      have hCd := HC.out.calm (Below.refl _ _).drew
      obtain ⟨d0, d1⟩ := hCd.cellsD
      have d2 := hCd.nth rfl HXI.out
      go_region_held3 (fun w' => w'.cell? ⟨q, 0, none⟩ = some (.slice da A.σ.cap dc) ∧ w'.cell? ⟨q, 1, none⟩ = some (.slice db A.σ.free.length dd) ∧ w'.cell? ⟨tb, k, none⟩ = some (.int .u32 (i : Int))) (go_keep)
        ((go_at_call 20; refine (ref_check (hCd.slots HINV.out) HINV.out HAGG.out HI4.out HA.out).mono ?_; rintro e wC ⟨rfl, hbC⟩; have hCC := hCd.calm hbC; obtain ⟨c0, c1⟩ := hCC.cellsD; have c2 := hCC.nth rfl HXI.out))
      have HC1 := Lib.hid hCC
      clear hCC hbC hCd d0 d1 d2 c0 c1 HC
      have c2 := HC1.out.nth rfl HXI.out
      go_wp2_with fail
      refine (cs_measure HK.out HC1.out HTOP.out.2 HINV.out HAGG.out HI4.out HA.out).mono ?_
      rintro e w7 ⟨rfl, hC7, -⟩
      have HC7 := Lib.hid hC7
      clear hC7 HC1 c2
      go_upto_region 11 with fail
      have hb8 := below_new7 w7 (Obj.cells #[Value.int .i64 kk, .int .i64 hh] 42)
      have hC8 := (HC7.out.alloc (Obj.cells #[Value.int .i64 kk, .int .i64 hh] 42)).less (Y := fun k => k = w7.heap.size) (fun k hk => .inr hk)
      have hx8 := heap_alloc_new w7 (Obj.cells #[Value.int .i64 kk, .int .i64 hh] 42)
      generalize w7.alloc (Obj.cells #[Value.int .i64 kk, .int .i64 hh] 42) = w8 at hC8 hx8 hb8 ⊢
      generalize w7.heap.size = gm at hC8 hx8 hb8 ⊢
      have HC8 := Lib.hid hC8
      have HX8 := Lib.hid hx8
      have c2 := hC8.nth rfl HXI.out
      have hee : (er != er) = false := by simp
      clear hb8 hC8 hx8 HC7
      go_wp2_with fail
      refine (cs_check HK.out HC8.out (by have := HTOP.out; omega) HINV.out HAGG.out HI4.out HA.out).mono ?_
      rintro e w9 ⟨rfl, hC9, hk9⟩
      have HC9 := Lib.hid hC9
      have HX9 := Lib.hid ((hk9 gm rfl).trans HX8.out)
      clear hC9 hk9 HC8 HX8 c2
      go_upto_region 14 with fail
      have hb10 := below_new7 w9 (Obj.cells #[Value.int .i64 0, .int .i64 0] 42)
      have hC10 := HC9.out.alloc (Obj.cells #[Value.int .i64 0, .int .i64 0] 42)
      have hw10 := heap_alloc_new w9 (Obj.cells #[Value.int .i64 0, .int .i64 0] 42)
      have hm10 := (hb10.block gm (Array.getElem?_eq_some_iff.1 HX9.out).1).trans HX9.out
      have hgw := HC9.out.lt
      generalize w9.alloc (Obj.cells #[Value.int .i64 0, .int .i64 0] 42) = w10 at hC10 hw10 hm10 hb10 ⊢
      have hgm : gm < w9.heap.size := (Array.getElem?_eq_some_iff.1 HX9.out).1
      have hBg : w.heap.size ≤ w9.heap.size := HC9.out.ms.hB
      generalize w9.heap.size = gw at hC10 hw10 hm10 hb10 hgw hgm hBg ⊢
      have HC10 := Lib.hid hC10
      have HW10 := Lib.hid hw10
      have HM10 := Lib.hid hm10
      have HGW : Hid (¬ CG q (.slice da A.σ.cap dc) (.slice db A.σ.free.length dd) (.slice (some ⟨tb, 0, none⟩) xs.length vc) gw) := fun h => Nat.lt_irrefl _ (hgw gw h)
      have HGM := Lib.hid hgm
      have HBG := Lib.hid hBg
      have c2 := hC10.nth rfl HXI.out
      clear hb10 hC10 hw10 hm10 hgw hgm hBg HC9 HX9 hee
      have HEND : Hid (∀ wx, CS I w.heap.size w wx (.pointer (some pa)) A (33554432 * (k : Int) + 16777216 + 16777216) q da db (some ⟨tb, 0, none⟩) dc dd vc xs (fun x => x = gm ∨ x = gw) → KRel I w.heap.size w (.pointer (some pa)) A q da db (some ⟨tb, 0, none⟩) dc dd vc xs (.int .i64 ((k : Int) + 1)) wx) := fun wx hx =>
        ⟨k + 1, by go_num, by have := HXL.out; have := HLT.out; omega, (hx.le (by omega)).less fun _ h => h.elim⟩
      have hmeas : T - (intOf (.int .i64 ((k : Int) + 1))).toNat < T - (intOf (.int .i64 (k : Int))).toNat := by have := HLT.out; simp [intOf]; omega
      have HMEAS := Lib.hid hmeas
      clear hmeas
      by_cases he0 : er = 0
      · have heq : (er == 0) = true := by simp; exact he0
        by_cases hi0 : i = 0
        · have hiq : ((i : Int) != 0) = false := by simp; exact hi0
          obtain ⟨rfl, rfl⟩ := HA.out.none (.inr hi0)
          obtain ⟨m0, m1⟩ := two_of HM10.out
          obtain ⟨e0, e1⟩ := two_of HW10.out
          clear hi0 he0
          go_wp2_with fail
          exact ⟨HEND.out _ HC10.out, HMEAS.out⟩
        · have hiq : ((i : Int) != 0) = true := by simp; exact hi0
          obtain ⟨t, hst, hon, hkk, hhh⟩ := HA.out.tree HAGG.out he0 hi0
          have hok := HINV.out.ok.on i hon
          obtain ⟨b, off, rfl, hbl, hcl⟩ := (HC10.out.slots HINV.out).cell (i - 1) (by omega)
          have hsz : w10.cell? ⟨b, off + (i - 1) * 11 + 7, none⟩ = some (.int .i64 kk) := by
            rw [← hkk]
            have := hcl 7 (.int .i64 (A.nd i).size) (by show (slV (A.sl (i - 1)))[7]? = _; unfold slV Ar.sl; rw [show i - 1 + 1 = i by omega]; rfl)
            exact this
          have hcap60 := HCAP.out
          have hw1 : IntKind.u32.wrap ((i : Int) - 1) = ((i - 1 : Nat) : Int) := by rw [IntKind.wrap_u32]; omega
          have hw2 : ((i - 1 : Nat) : Int) < (A.σ.cap : Int) := by omega
          have hw3 : (0 : Int) ≤ ((i - 1 : Nat) : Int) := by omega
          have hw4 : (((i - 1 : Nat) : Int)).toNat = i - 1 := Int.toNat_natCast _
          have HST := Lib.hid hst
          have HHH := Lib.hid hhh
          have hbg : b ≠ gw := fun e => HGW.out (by rw [← e]; exact .inr (.inl rfl))
          have hbg2 : gw ≠ b := fun e => hbg e.symm
          have hqg : q ≠ gw := fun e => HGW.out (by rw [← e]; exact .inl rfl)
          have hqg2 : gw ≠ q := fun e => hqg e.symm
          have htg : tb ≠ gw := fun e => HGW.out (by rw [← e]; exact .inr (.inr (.inr rfl)))
          have htg2 : gw ≠ tb := fun e => htg e.symm
          have HNE : Hid (gm ≠ gw) := Nat.ne_of_lt HGM.out
          clear he0 hi0 hst hon hkk hhh hok hbl hcl hcap60
          have HSZ10 := Lib.hid hsz
          have hblt : b < w10.heap.size := HC10.out.lt b (.inr (.inl rfl))
          have HBLT := Lib.hid hblt
          clear hblt hsz
          go_upto_region 15 with fail
          clear c2
          have hbd : Below w10.heap.size w10 w10.drew := (Below.refl _ _).drew
          have hCd := HC10.out.calm hbd
          obtain ⟨d0, d1⟩ := hCd.cellsD
          have d2 := hCd.nth rfl HXI.out
          have hsz := (hbd.cell (p := ⟨b, off + (i - 1) * 11 + 7, none⟩) HBLT.out).trans HSZ10.out
          have hwd := (hbd.block gw (HC10.out.ms.lt (.inr (.inr rfl)))).trans HW10.out
          have hmd := (hbd.block gm (HC10.out.ms.lt (.inr (.inl rfl)))).trans HM10.out
          have hbld : b < w10.drew.heap.size := Nat.lt_of_lt_of_le HBLT.out hbd.size
          clear hbd
          go_region_held3 (fun w' => w'.cell? ⟨q, 0, none⟩ = some (.slice (some ⟨b, off, none⟩) A.σ.cap dc) ∧ w'.cell? ⟨q, 1, none⟩ = some (.slice db A.σ.free.length dd) ∧ w'.cell? ⟨tb, k, none⟩ = some (.int .u32 (i : Int)) ∧ w'.cell? ⟨b, off + (i - 1) * 11 + 7, none⟩ = some (.int .i64 kk)) (go_keep)
            ((go_at_call 23; refine (height_any HINV.out.ok HAGG.out rfl HST.out _ (hCd.slots HINV.out)).mono ?_; rintro e wH ⟨rfl, hbH⟩; rw [HHH.out]; have hCH := hCd.calm hbH; obtain ⟨c0, c1⟩ := hCH.cellsD; have c2 := hCH.nth rfl HXI.out; have hszH := (hbH.cell (p := ⟨b, off + (i - 1) * 11 + 7, none⟩) hbld).trans hsz; have hwH := (hbH.block gw (hCd.ms.lt (.inr (.inr rfl)))).trans hwd; have hmH := (hbH.block gm (hCd.ms.lt (.inr (.inl rfl)))).trans hmd; have hf0 := frozen_of_row wH gw 0 _ _ hwH; have hf1 := frozen_of_row wH gw 1 _ _ hwH; obtain ⟨e0, e1⟩ := two_of hwH))
          have hcs := OnlyG.cs hCH (.inr rfl) HGW.out HBG.out (set_two_only wH gw (.int .i64 kk) (.int .i64 hh))
          have hwr := set_two_row (x := .int .i64 kk) (y := .int .i64 hh) hwH
          have hmr := ((set_two_only wH gw (.int .i64 kk) (.int .i64 hh)).2.2.2.2 gm HNE.out).trans hmH
          generalize (wH.setCell ⟨gw, 0, none⟩ (.int .i64 kk)).setCell ⟨gw, 1, none⟩ (.int .i64 hh) = wZ at hcs hwr hmr ⊢
          obtain ⟨m0, m1⟩ := two_of hmr
          obtain ⟨n0, n1⟩ := two_of hwr
          have HCZ := Lib.hid hcs
          have hkq : (kk == kk) = true := by simp
          have hhq : (hh == hh) = true := by simp
          clear hcs hwr hmr hwH hmH hszH hCH hbH hCd d0 d1 d2 c0 c1 c2 e0 e1 hf0 hf1 hsz hwd hmd hbld hbg hbg2 hqg hqg2 htg htg2 hw1 hw2 hw3 hw4
          go_wp2_with fail
          exact ⟨HEND.out _ HCZ.out, HMEAS.out⟩
      · have heq : (er == 0) = false := by simp; exact he0
        obtain ⟨rfl, rfl⟩ := HA.out.none (.inl he0)
        obtain ⟨m0, m1⟩ := two_of HM10.out
        obtain ⟨e0, e1⟩ := two_of HW10.out
        clear he0
        go_wp2_with fail
        exact ⟨HEND.out _ HC10.out, HMEAS.out⟩
    · have hki : ¬ (k : Int) < (T : Int) := by omega
      have hfc : A.σ.free.length ≤ 65536 := by have := HINV.out.ok.len; have := HINV.out.ok.cap2; omega
      have HFC := Lib.hid hfc
      clear hfc hlt
      go_upto_region 18 with fail
      have hCd := HC.out.calm (Below.refl _ _).drew
      obtain ⟨d0, d1⟩ := hCd.cellsD
      go_region_held3 (fun w' => w'.cell? ⟨q, 0, none⟩ = some (.slice da A.σ.cap dc) ∧ w'.cell? ⟨q, 1, none⟩ = some (.slice db A.σ.free.length dd)) (go_keep) (first
        | (go_at_call 19; refine (ms_dump hCd.ms HINV.out).mono ?_; rintro e wD ⟨ea, ec, eb, ed, rfl, -, -, hSD, hbD, -, hfD⟩; have hCD := hCd.calm hbD; obtain ⟨c0, c1⟩ := hCD.cellsD)
        | (go_at_call 24; refine (same_dump A.σ.free rfl hSD (hCD.slots HINV.out) hfD hCD.fr HINV.out.ok.cap2 HFC.out).mono ?_; rintro e wE ⟨rfl, hbE⟩; have hCE := hCD.calm hbE; obtain ⟨e0, e1⟩ := hCE.cellsD))
      all_goals (go_wp2_with fail; go_ret; exact ⟨rfl, hCE.ms.below⟩)
end Go.Proofs.Yticfihklfnjeoaa
