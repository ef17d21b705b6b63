/- SummaryRange, SummaryPrefix over contracts. -/
import Derived.Test.YtbjmblfifnjafaaSmCon
import Derived.Test.YtbjmblfifnjafaaSameDump
import Derived.Test.YtbjmblfifnjafaaSlotsAid
import Derived.Deep.RegionHeld3
import Derived.Deep.QuietTactic
import Derived.Deep.DeepCutAuto
set_option linter.unusedVariables false
set_option linter.unusedSimpArgs false
namespace Go.Proofs.Ytbjmblfifnjafaa
open Go.RowKit
theorem made_at {w w' : World} {l : List En} {e : Ending} (h : MadeEns w l e w') (hw : ∀ e ∈ l, i64R e.key ∧ i64R e.val) {N : Nat} (hN : l.length = N) : ∃ a c, e = .returned (.slice a N c) ∧ EnsAt w' a l ∧ Below w.heap.size w w' := by
  obtain ⟨a, c, rfl, hr, hb⟩ := h
  subst hN
  exact ⟨a, c, rfl, ens_at hr hw, hb⟩
theorem mod_quietS {n m : Int} {p : Nat} (h1 : -9223372036854775808 ≤ n) (h2 : n ≤ 9223372036854775807) (h3 : 1 ≤ m) (h4 : m ≤ 9223372036854775807) (hp : n % m = (p : Int)) (w : World) :
    Calls Try.prog 13 #[.int .i64 n, .int .i64 m] w (Quiet w (.int .i64 (p : Int))) := by
  refine (mod_any n m w h1 h2 h3 h4).mono ?_
  rintro e w' ⟨h5, rfl⟩
  exact ⟨by rw [h5, hp], 0, rfl⟩
def RgRel (I : AImpl) (B : Nat) (w0 : World) (p : Value) (A : Ar) (rs : List Row) (bs : List (Nat × Obj)) (lo hi k : Value) (wr : World) : Prop :=
  ∃ (lo0 hi0 : Int) (j : Nat) (rd : Int), lo = .int .i64 lo0 ∧ hi = .int .i64 hi0 ∧ k = .int .i64 (j : Int) ∧ j ≤ 2 ∧ i64R lo0 ∧ i64R hi0 ∧ 0 ≤ rd ∧ rd ≤ 3000 * (j : Int) ∧ Scn I B w0 wr p A rd rs bs
set_option maxHeartbeats 8000000 in
set_option maxRecDepth 100000 in
theorem smrange_walk (I : AImpl) (K : SmImpl I) {a : Option Addr} {n c : Nat} {raw : List En} {tilt : Int} {lo hi i j : Int} {w : World} (hE : EnsAt w a raw) (hn : raw.length = n) (hnm : n ≤ 9223372036854775807) (ht0 : 0 ≤ tilt) (ht1 : tilt < 18446744073709551616) (hlo : i64R lo) (hhi : i64R hi) (hi64 : i64R i) (hj64 : i64R j) :
    Calls Try.prog 6 #[.slice a n c, .int .u64 tilt, .int .i64 lo, .int .i64 hi, .int .i64 i, .int .i64 j] w (Calm w (.bool true)) := by
  have HK := Lib.hid K
  have HARG : Hid (i64R lo ∧ i64R hi) := ⟨hlo, hhi⟩
  have HIJ : Hid (i64R i ∧ i64R j) := ⟨hi64, hj64⟩
  clear K hlo hhi hi64 hj64
  have HWF : Hid (∀ y ∈ listE raw 120, i64R y.key ∧ i64R y.val) := fun y hy => hE.wf y (listE_mem hy)
  have HL := Lib.hid (list_any (c := c) (k := 120) hE hn hnm (by decide))
  have HT : Hid (0 ≤ tilt ∧ tilt < 18446744073709551616) := ⟨ht0, ht1⟩
  have HUP := Lib.hid (listE_up raw 120)
  have HLEN := Lib.hid (listE_len raw 120)
  clear hE hn hnm ht0 ht1
  go_enter Try.func6, Try.ntmps6
  go_wp2_with fail
  refine HL.out.mono ?_
  rintro e w1 ⟨a1, c1, rfl, hr1, hb1⟩
  have HR1 := Lib.hid hr1
  have HB1 := Lib.hid hb1
  clear hr1 hb1 HL
  generalize listE raw 120 = l at HUP HLEN HR1 HWF ⊢
  obtain ⟨L, hL⟩ : ∃ L, l.length = L := ⟨_, rfl⟩
  rw [hL] at HLEN HR1 ⊢
  have HLL := Lib.hid hL
  have hLi : (L : Int) ≤ 120 := by have := HLEN.out; omega
  have HE1 := Lib.hid (ens_row hL HR1.out HWF.out)
  have HC1 := Lib.hid (row_caps HR1.out)
  clear hL
  go_wp2_with fail
  refine (grow_any I (sp := 1) (m := L + 1) HE1.out HLL.out HC1.out.1 HC1.out.2 rfl (by omega) (by have := HLEN.out; omega) HT.out.1 HT.out.2).mono ?_
  rintro e w2 ⟨p, A, ri, t, F, rfl, hg⟩
  obtain ⟨pa, rfl⟩ := I.ptr hg.is
  have HTR := Lib.hid (hg.planted.tree HUP.out)
  have HPL := Lib.hid hg.planted
  have HS2 := Lib.hid (Scn.init hg HB1.out HR1.out)
  clear hg HR1 HE1 HC1 HT
  go_wp2_with fail
  refine (awake11_any I HK.out w2).mono ?_
  rintro e w3 ⟨rfl, hb3⟩
  have HS3 := Lib.hid (HS2.out.calm hb3)
  clear hb3 HS2
  have hmj := mostJ_le (n := L) (by have := HLEN.out; omega)
  have HXH : Hid (xhI (L : Int) = (xh L : Int)) := xhI_nat (by have := HLEN.out; omega)
  obtain ⟨M, hM⟩ : ∃ M, mostJ L = M := ⟨_, rfl⟩
  rw [hM] at hmj
  have HMOST : Hid (M ≤ 492 ∧ 0 ≤ M) := hmj
  have hM2 : M = 6 * ((xh L : Int) + 2) := by rw [← hM]; rfl
  obtain ⟨X0, hX0⟩ : ∃ X : Int, (xh L : Int) = X := ⟨_, rfl⟩
  rw [hX0] at hM2 HXH
  have v1 : IntKind.i64.wrap (X0 + 2) = X0 + 2 := by rw [IntKind.wrap_i64]; omega
  have v2 : IntKind.i64.wrap (12 * (X0 + 2)) = 2 * M := by rw [IntKind.wrap_i64]; omega
  have HML : Hid (mostJ l.length = M) := by show _ = _; rw [HLL.out, hM]
  have HWV : Hid (∀ e ∈ l, i64R e.val) := fun e he => (HWF.out e he).2
  clear hmj hM hM2 hX0
  go_wp2_with fail
  refine HS3.out.dump.mono ?_
  rintro e w4 ⟨da, dc, db, dd, rfl, hs4, hb4⟩
  have HS4 := Lib.hid hs4
  clear hs4 hb4 HS3
  go_wp2_with fail
  refine (height_kit (L : Int) w4 (by omega) (by omega)).mono ?_
  rintro e w5 ⟨rfl, hb5⟩
  rw [HXH.out]
  have hs5 := (HS4.out.calm hb5).box #[.slice da A.σ.cap dc, .slice db A.σ.free.length dd] 41
  clear hb5 HS4
  go_upto_region 6 with fail
  generalize w5.alloc (Obj.cells #[.slice da A.σ.cap dc, .slice db A.σ.free.length dd] 41) = w6 at hs5 ⊢
  generalize w5.heap.size = q at hs5 ⊢
  generalize hrs : [(⟨35, 1, .slice db A.σ.free.length dd, A.σ.free.length, u32s A.σ.free⟩ : Row), ⟨74, 11, .slice da A.σ.cap dc, A.σ.cap, slotsV A⟩, ⟨49, 2, .slice a1 L c1, L, ensV l⟩] = rs at hs5
  generalize hbs : [(q, Obj.cells #[.slice da A.σ.cap dc, .slice db A.σ.free.length dd] 41 (0, 0))] = bs at hs5
  have HRS := Lib.hid hrs
  have HBS := Lib.hid hbs
  have HLJ : Hid (∀ {wx : World} {rd : Int} {bs' : List (Nat × Obj)}, Scn I w.heap.size w wx (.pointer (some pa)) A rd rs bs' → EnsAt wx a1 l) := fun {wx rd bs'} h => ens_row HLL.out (h.rows ⟨49, 2, .slice a1 L c1, L, ensV l⟩ (by rw [← HRS.out]; simp)) HWF.out
  have HR0 : Hid (RgRel I w.heap.size w (.pointer (some pa)) A rs bs (.int .i64 lo) (.int .i64 hi) (.int .i64 0) w6) := ⟨lo, hi, 0, 0, rfl, rfl, rfl, by omega, HARG.out.1, HARG.out.2, by decide, by decide, hs5⟩
  clear hrs hbs hs5 HARG v1 v2
  go_wp2_with fail
  go_loopw [2, 3, 19] (fun lo hi k wr => RgRel I w.heap.size w (.pointer (some pa)) A rs bs lo hi k wr) (fun _ _ k _ => 2 - (intOf k).toNat)
  case atStart => exact HR0.out
  case round =>
    clear HR0
    obtain ⟨lo, hi, y, rd, rfl, rfl, rfl, hy, g3, g4, hrd0, hrd1, hS⟩ := hrel
    have HS := Lib.hid hS
    have HG : Hid (i64R lo ∧ i64R hi) := ⟨g3, g4⟩
    have HRD : Hid (0 ≤ rd ∧ rd ≤ 3000 * (y : Int) ∧ y ≤ 2) := ⟨hrd0, hrd1, hy⟩
    clear hS hy hrd0 hrd1 g3 g4
    by_cases hlt : y < 2
    · have hji : (y : Int) < 2 := by omega
      have HLT := Lib.hid hlt
      clear hlt
      go_wp2_with fail
      refine HS.out.reads.mono ?_
      rintro e w7 ⟨rfl, hs7⟩
      have HS7 := Lib.hid hs7
      clear hs7 HS
      go_wp2_with fail
      refine (HS7.out.call fun F hI => HK.out.range lo hi _ hI HTR.out HRD.out.1 (by have := HRD.out; omega) HG.out.1 HG.out.2 HWV.out).mono ?_
      rintro e w8 ⟨rfl, rd8, hs8, h80, h81⟩
      rw [HML.out] at h81
      have HS8 := Lib.hid hs8
      have HRD8 : Hid (rd ≤ rd8 ∧ rd8 ≤ rd + 2 * M) := ⟨h80, h81⟩
      clear hs8 h80 h81 HS7
      obtain ⟨N, hN⟩ : ∃ N, (betE l lo hi).length = N := ⟨_, rfl⟩
      have HNN : Hid ((betE l lo hi).length = N ∧ N ≤ 1000000) := ⟨hN, by have := bet_len l lo hi; have := HLL.out; have := HLEN.out; omega⟩
      have HBW : Hid (∀ e ∈ betE l lo hi, i64R e.key ∧ i64R e.val) := fun e he => HWF.out e (bet_mem he)
      clear hN
      obtain ⟨z, hz⟩ : ∃ z, sumE (betE l lo hi) = z := ⟨_, rfl⟩
      have HZ := Lib.hid hz
      rw [hz, smA_at]
      clear hz
      go_wp2_with fail
      refine (between_any lo hi (HLJ.out HS8.out) HLL.out (by have := HLEN.out; omega)).mono ?_
      rintro e w9 hmd
      obtain ⟨ba, bc, rfl, hat9, hb9⟩ := made_at hmd HBW.out HNN.out.1
      have HAT9 := Lib.hid hat9
      have HS9 := Lib.hid (HS8.out.calm hb9)
      clear hmd hat9 hb9 HS8
      go_wp2_with fail
      refine (summarize_any HAT9.out HNN.out.1 HNN.out.2).mono ?_
      rintro e w10 ⟨rfl, hb10⟩
      rw [HZ.out, smA_at]
      have HS10 := Lib.hid (HS9.out.calm hb10)
      have e0 : (z.n != z.n) = false := by simp
      have e1 : (z.s != z.s) = false := by simp
      have e2 : (z.mn != z.mn) = false := by simp
      have e3 : (z.mx != z.mx) = false := by simp
      have f0 : (z.n == z.n) = true := by simp
      have f1 : (z.s == z.s) = true := by simp
      have f2 : (z.mn == z.mn) = true := by simp
      have f3 : (z.mx == z.mx) = true := by simp
      clear hb10 HS9 HAT9
      go_wp2_with fail
      refine (within_any HS10.out.mr HRD.out.1 HRD8.out.1 (by have := HRD8.out; omega) (by have := HRD8.out; have := HRD.out; have := HMOST.out; omega) (by have := HMOST.out; omega)).mono ?_
      rintro e w11 ⟨rfl, hb11⟩
      have HS11 := Lib.hid (HS10.out.calm hb11)
      have HRE8 : Hid (0 ≤ rd8 ∧ rd8 ≤ 3000 * ((y + 1 : Nat) : Int)) := by have h1 := HRD.out; have h2 := HRD8.out; have h3 := HMOST.out; exact ⟨by omega, by omega⟩
      clear hb11 HS10 HRD8 e0 e1 e2 e3 f0 f1 f2 f3
      by_cases hl0 : 0 < L
      · have hgt : decide ((L : Int) > 0) = true := decide_eq_true (by omega)
        have hgt2 : decide ((0 : Int) < (L : Int)) = true := decide_eq_true (by omega)
        have hgt3 : (0 : Int) < (L : Int) := by omega
        have p1 := Int.emod_nonneg i (b := (L : Int)) (by omega)
        have p2 := Int.emod_lt_of_pos i (b := (L : Int)) (by omega)
        have p3 := Int.emod_nonneg j (b := (L : Int)) (by omega)
        have p4 := Int.emod_lt_of_pos j (b := (L : Int)) (by omega)
        obtain ⟨P, hP⟩ := Int.eq_ofNat_of_zero_le p1
        obtain ⟨Q, hQ⟩ := Int.eq_ofNat_of_zero_le p3
        rw [hP] at p2
        rw [hQ] at p4
        obtain ⟨eP, heP⟩ : ∃ e, l[P]? = some e := ⟨_, List.getElem?_eq_getElem (by have := HLL.out; omega)⟩
        obtain ⟨eQ, heQ⟩ : ∃ e, l[Q]? = some e := ⟨_, List.getElem?_eq_getElem (by have := HLL.out; omega)⟩
        have HWP := Lib.hid (HWF.out eP (List.mem_of_getElem? heP)).1
        have HWQ := Lib.hid (HWF.out eQ (List.mem_of_getElem? heQ)).1
        have HM1 : Hid (∀ wx, Calls Try.prog 13 #[.int .i64 i, .int .i64 (L : Int)] wx (Quiet wx (.int .i64 (P : Int)))) := fun wx => mod_quietS HIJ.out.1.1 HIJ.out.1.2 (by omega) (by omega) hP wx
        have HM2 : Hid (∀ wx, Calls Try.prog 13 #[.int .i64 j, .int .i64 (L : Int)] wx (Quiet wx (.int .i64 (Q : Int)))) := fun wx => mod_quietS HIJ.out.2.1 HIJ.out.2.2 (by omega) (by omega) hQ wx
        obtain ⟨b, off, hab, hb, c0, -⟩ := (HLJ.out HS11.out).at heP
        obtain ⟨b', off', hab', hb', d0, -⟩ := (HLJ.out HS11.out).at heQ
        rw [hab] at hab'
        obtain ⟨rfl, rfl⟩ : b = b' ∧ off = off' := by simpa using hab'
        have hP0 : (0 : Int) ≤ (P : Int) := by omega
        have hQ0 : (0 : Int) ≤ (Q : Int) := by omega
        have hPL : (P : Int) < (L : Int) := p2
        have hQL : (Q : Int) < (L : Int) := p4
        have HAB := Lib.hid hab
        subst hab
        clear hab' heP heQ hb hb' p1 p3 hP hQ p2 p4 hl0
        go_upto_region 13 with fail
        go_quiet (first
          | (go_at_call_of 13 (Value.int .i64 i); exact Calls.quiet_of (HM1.out _))
          | (go_at_call_of 13 (Value.int .i64 j); exact Calls.quiet_of (HM2.out _)))
        rename Nat => dd
        have HS21 : Hid (Scn I w.heap.size w (w11.drewN dd) (.pointer (some pa)) A rd8 rs bs) := HS11.out.calm (below_drewN (Below.refl _ _) dd)
        generalize w11.drewN dd = w22 at HS21 ⊢
        clear c0 d0 HS11
        go_wp2_with fail
        exact ⟨⟨eP.key, eQ.key, y + 1, rd8, rfl, rfl, by go_num, by have := HLT.out; omega, HWP.out, HWQ.out, HRE8.out.1, HRE8.out.2, HS21.out⟩, by have := HLT.out; simp [intOf]; omega⟩
      · have hgt : decide ((L : Int) > 0) = false := decide_eq_false (by omega)
        have hgt2 : decide ((0 : Int) < (L : Int)) = false := decide_eq_false (by omega)
        have hgt3 : ¬ (0 : Int) < (L : Int) := by omega
        clear hl0
        go_wp2_with fail
        exact ⟨⟨lo, hi, y + 1, rd8, rfl, rfl, by go_num, by have := HLT.out; omega, HG.out.1, HG.out.2, HRE8.out.1, HRE8.out.2, HS11.out⟩, by have := HLT.out; simp [intOf]; omega⟩
    · obtain rfl : y = 2 := by have h1 := HRD.out; omega
      have HFC : Hid (A.σ.cap ≤ 65536 ∧ A.σ.free.length ≤ 65536) := by have h1 := HPL.out.inv.ok.len; have h2 := HPL.out.inv.ok.cap2; exact ⟨h2, by omega⟩
      clear hlt HRD HG
      have HCEL : Hid (∀ {wx : World} {rd : Int} {rs' : List Row}, Scn I w.heap.size w wx (.pointer (some pa)) A rd rs' bs → wx.cell? ⟨q, 0, none⟩ = some (.slice da A.σ.cap dc) ∧ wx.cell? ⟨q, 1, none⟩ = some (.slice db A.σ.free.length dd)) := fun {wx rd rs'} h => by
        have hq := (h.boxes (q, Obj.cells #[.slice da A.σ.cap dc, .slice db A.σ.free.length dd] 41 (0, 0)) (by rw [← HBS.out]; simp)).2
        exact two_cells hq
      have HS0 := HS.out
      clear HS
      go_upto_region 14 with fail
      have hSd := HS0.calm (Below.refl _ _).drew
      obtain ⟨q0, q1⟩ := HCEL.out hSd
      clear HS0
      go_region_held3 (fun w' => w'.cell? ⟨q, 0, none⟩ = some (.slice da A.σ.cap dc) ∧ w'.cell? ⟨q, 1, none⟩ = some (.slice db A.σ.free.length dd)) (go_keep) (first
        | (go_at_call 16; refine hSd.dump.mono ?_; rintro e wC ⟨ea, ec, eb, ed, rfl, hsC, hbC⟩; have hSC := hSd.calm hbC; obtain ⟨q0, q1⟩ := HCEL.out hSC)
        | (go_at_call 22; refine (same_dump A.σ.free rfl (slots_at HPL.out.inv (hsC.rows ⟨74, 11, .slice ea A.σ.cap ec, A.σ.cap, slotsV A⟩ (by simp))) (slots_at HPL.out.inv (hSC.rows ⟨74, 11, .slice da A.σ.cap dc, A.σ.cap, slotsV A⟩ (by rw [← HRS.out]; simp))) (hsC.rows ⟨35, 1, .slice eb A.σ.free.length ed, A.σ.free.length, u32s A.σ.free⟩ (by simp)) (hSC.rows ⟨35, 1, .slice db A.σ.free.length dd, A.σ.free.length, u32s A.σ.free⟩ (by rw [← HRS.out]; simp)) HFC.out.1 HFC.out.2).mono ?_; rintro e wD ⟨rfl, hbD⟩; have hSD := hSC.calm hbD; obtain ⟨q0, q1⟩ := HCEL.out hSD))
      all_goals (go_wp2_with fail; go_ret; exact ⟨rfl, hSD.below⟩)
def PxRel (I : AImpl) (B : Nat) (w0 : World) (p : Value) (A : Ar) (rs : List Row) (i k : Value) (wr : World) : Prop :=
  ∃ (i0 : Int) (j : Nat) (rd : Int), i = .int .i64 i0 ∧ k = .int .i64 (j : Int) ∧ j ≤ 2 ∧ i64R i0 ∧ 0 ≤ rd ∧ rd ≤ 3000 * (j : Int) ∧ Scn I B w0 wr p A rd rs []
set_option maxHeartbeats 8000000 in
set_option maxRecDepth 100000 in
theorem smprefix_walk (I : AImpl) (K : SmImpl I) {a : Option Addr} {n c : Nat} {raw : List En} {tilt : Int} {i : Int} {w : World} (hE : EnsAt w a raw) (hn : raw.length = n) (hnm : n ≤ 9223372036854775807) (ht0 : 0 ≤ tilt) (ht1 : tilt < 18446744073709551616) (hi64 : i64R i) :
    Calls Try.prog 7 #[.slice a n c, .int .u64 tilt, .int .i64 i] w (Calm w (.bool true)) := by
  have HK := Lib.hid K
  have HARG : Hid (i64R i) := hi64
  clear K hi64
  have HWF : Hid (∀ y ∈ listE raw 120, i64R y.key ∧ i64R y.val) := fun y hy => hE.wf y (listE_mem hy)
  have HL := Lib.hid (list_any (c := c) (k := 120) hE hn hnm (by decide))
  have HT : Hid (0 ≤ tilt ∧ tilt < 18446744073709551616) := ⟨ht0, ht1⟩
  have HUP := Lib.hid (listE_up raw 120)
  have HLEN := Lib.hid (listE_len raw 120)
  clear hE hn hnm ht0 ht1
  go_enter Try.func7, Try.ntmps7
  go_wp2_with fail
  refine HL.out.mono ?_
  rintro e w1 ⟨a1, c1, rfl, hr1, hb1⟩
  have HR1 := Lib.hid hr1
  have HB1 := Lib.hid hb1
  clear hr1 hb1 HL
  generalize listE raw 120 = l at HUP HLEN HR1 HWF ⊢
  obtain ⟨L, hL⟩ : ∃ L, l.length = L := ⟨_, rfl⟩
  rw [hL] at HLEN HR1 ⊢
  have HLL := Lib.hid hL
  have hLi : (L : Int) ≤ 120 := by have := HLEN.out; omega
  have HE1 := Lib.hid (ens_row hL HR1.out HWF.out)
  have HC1 := Lib.hid (row_caps HR1.out)
  clear hL
  go_wp2_with fail
  refine (grow_any I (sp := 1) (m := L + 1) HE1.out HLL.out HC1.out.1 HC1.out.2 rfl (by omega) (by have := HLEN.out; omega) HT.out.1 HT.out.2).mono ?_
  rintro e w2 ⟨p, A, ri, t, F, rfl, hg⟩
  obtain ⟨pa, rfl⟩ := I.ptr hg.is
  have HTR := Lib.hid (hg.planted.tree HUP.out)
  have HPL := Lib.hid hg.planted
  have HS2 := Lib.hid (Scn.init hg HB1.out HR1.out)
  clear hg HR1 HE1 HC1 HT
  go_wp2_with fail
  refine (awake11_any I HK.out w2).mono ?_
  rintro e w3 ⟨rfl, hb3⟩
  have HS3 := Lib.hid (HS2.out.calm hb3)
  clear hb3 HS2
  have hmj := mostJ_le (n := L) (by have := HLEN.out; omega)
  have HXH : Hid (xhI (L : Int) = (xh L : Int)) := xhI_nat (by have := HLEN.out; omega)
  obtain ⟨M, hM⟩ : ∃ M, mostJ L = M := ⟨_, rfl⟩
  rw [hM] at hmj
  have HMOST : Hid (M ≤ 492 ∧ 0 ≤ M) := hmj
  have hM2 : M = 6 * ((xh L : Int) + 2) := by rw [← hM]; rfl
  obtain ⟨X0, hX0⟩ : ∃ X : Int, (xh L : Int) = X := ⟨_, rfl⟩
  rw [hX0] at hM2 HXH
  have v1 : IntKind.i64.wrap (X0 + 2) = X0 + 2 := by rw [IntKind.wrap_i64]; omega
  have v2 : IntKind.i64.wrap (6 * (X0 + 2)) = M := by rw [IntKind.wrap_i64]; omega
  have HML : Hid (mostJ l.length = M) := by show _ = _; rw [HLL.out, hM]
  have HWV : Hid (∀ e ∈ l, i64R e.val) := fun e he => (HWF.out e he).2
  clear hmj hM hM2 hX0
  generalize hrs : [(⟨49, 2, .slice a1 L c1, L, ensV l⟩ : Row)] = rs at HS3
  have HRS := Lib.hid hrs
  have HLJ : Hid (∀ {wx : World} {rd : Int} {bs' : List (Nat × Obj)}, Scn I w.heap.size w wx (.pointer (some pa)) A rd rs bs' → EnsAt wx a1 l) := fun {wx rd bs'} h => ens_row HLL.out (h.rows ⟨49, 2, .slice a1 L c1, L, ensV l⟩ (by rw [← HRS.out]; simp)) HWF.out
  have HR0 : Hid (PxRel I w.heap.size w (.pointer (some pa)) A rs (.int .i64 i) (.int .i64 0) w3) := ⟨i, 0, 0, rfl, rfl, by omega, HARG.out, by decide, by decide, HS3.out⟩
  have V1 := Lib.hid v1
  have V2 := Lib.hid v2
  clear hrs HARG HS3 v1 v2
  go_wp2_with fail
  go_loopw [2, 11] (fun i k wr => PxRel I w.heap.size w (.pointer (some pa)) A rs i k wr) (fun _ k _ => 2 - (intOf k).toNat)
  case atStart => exact HR0.out
  case round =>
    clear HR0
    obtain ⟨i, y, rd, rfl, rfl, hy, g3, hrd0, hrd1, hS⟩ := hrel
    have HS := Lib.hid hS
    have HG : Hid (i64R i) := g3
    have HRD : Hid (0 ≤ rd ∧ rd ≤ 3000 * (y : Int) ∧ y ≤ 2) := ⟨hrd0, hrd1, hy⟩
    clear hS hy hrd0 hrd1 g3
    by_cases hlt : y < 2
    · have hji : (y : Int) < 2 := by omega
      have HLT := Lib.hid hlt
      clear hlt
      go_wp2_with fail
      refine HS.out.reads.mono ?_
      rintro e w7 ⟨rfl, hs7⟩
      have HS7 := Lib.hid hs7
      clear hs7 HS
      go_wp2_with fail
      refine (HS7.out.call fun F hI => HK.out.pre i _ hI HTR.out HRD.out.1 (by have := HRD.out; omega) HG.out HWV.out).mono ?_
      rintro e w8 ⟨rfl, rd8, hs8, h80, h81⟩
      rw [HML.out] at h81
      have HS8 := Lib.hid hs8
      have HRD8 : Hid (rd ≤ rd8 ∧ rd8 ≤ rd + M) := ⟨h80, h81⟩
      clear hs8 h80 h81 HS7
      obtain ⟨N, hN⟩ : ∃ N, (l.take i.toNat).length = N := ⟨_, rfl⟩
      have HNN : Hid ((l.take i.toNat).length = N ∧ N ≤ 1000000) := ⟨hN, by have := List.length_take_le' i.toNat l; have := HLL.out; have := HLEN.out; omega⟩
      have HBW : Hid (∀ e ∈ l.take i.toNat, i64R e.key ∧ i64R e.val) := fun e he => HWF.out e (List.mem_of_mem_take he)
      clear hN
      obtain ⟨z, hz⟩ : ∃ z, sumE (l.take i.toNat) = z := ⟨_, rfl⟩
      have HZ := Lib.hid hz
      rw [hz, smA_at]
      clear hz
      go_wp2_with fail
      refine (head_any i (HLJ.out HS8.out) HLL.out (by have := HLEN.out; omega)).mono ?_
      rintro e w9 hmd
      obtain ⟨ba, bc, rfl, hat9, hb9⟩ := made_at hmd HBW.out HNN.out.1
      have HAT9 := Lib.hid hat9
      have HS9 := Lib.hid (HS8.out.calm hb9)
      clear hmd hat9 hb9 HS8
      go_wp2_with fail
      refine (summarize_any HAT9.out HNN.out.1 HNN.out.2).mono ?_
      rintro e w10 ⟨rfl, hb10⟩
      rw [HZ.out, smA_at]
      have HS10 := Lib.hid (HS9.out.calm hb10)
      have e0 : (z.n != z.n) = false := by simp
      have e1 : (z.s != z.s) = false := by simp
      have e2 : (z.mn != z.mn) = false := by simp
      have e3 : (z.mx != z.mx) = false := by simp
      have f0 : (z.n == z.n) = true := by simp
      have f1 : (z.s == z.s) = true := by simp
      have f2 : (z.mn == z.mn) = true := by simp
      have f3 : (z.mx == z.mx) = true := by simp
      have v1 := V1.out
      have v2 := V2.out
      clear hb10 HS9 HAT9
      go_wp2_with fail
      refine (height_kit (L : Int) w10 (by omega) (by omega)).mono ?_
      rintro e w11 ⟨rfl, hb11⟩
      rw [HXH.out]
      have HS11 := Lib.hid (HS10.out.calm hb11)
      clear hb11 HS10
      go_wp2_with fail
      refine (within_any HS11.out.mr HRD.out.1 HRD8.out.1 (by have := HRD8.out; omega) (by have := HRD8.out; have := HRD.out; have := HMOST.out; omega) (by have := HMOST.out; omega)).mono ?_
      rintro e w12 ⟨rfl, hb12⟩
      have HS12 := Lib.hid (HS11.out.calm hb12)
      have HRE8 : Hid (0 ≤ rd8 ∧ rd8 ≤ 3000 * ((y + 1 : Nat) : Int)) := by have h1 := HRD.out; have h2 := HRD8.out; have h3 := HMOST.out; exact ⟨by omega, by omega⟩
      have m1 := Int.emod_nonneg i (b := (L : Int) + 3) (by omega)
      have m2 := Int.emod_lt_of_pos i (b := (L : Int) + 3) (by omega)
      have u1 : IntKind.i64.wrap ((L : Int) + 3) = (L : Int) + 3 := by rw [IntKind.wrap_i64]; omega
      have u2 : IntKind.i64.wrap (i % ((L : Int) + 3) - 1) = i % ((L : Int) + 3) - 1 := by rw [IntKind.wrap_i64]; omega
      have HI1 : Hid (i64R (i % ((L : Int) + 3) - 1)) := ⟨by omega, by omega⟩
      clear hb12 HS11 HRD8 e0 e1 e2 e3 f0 f1 f2 f3 v1 v2
      go_wp2_with fail
      refine (mod_any i ((L : Int) + 3) _ HG.out.1 HG.out.2 (by omega) (by omega)).mono ?_
      rintro e w21 ⟨rfl, rfl⟩
      generalize i % ((L : Int) + 3) = mi at m1 m2 u2 HI1
      go_wp2_with fail
      exact ⟨⟨mi - 1, y + 1, rd8, rfl, by go_num, by have := HLT.out; omega, HI1.out, HRE8.out.1, HRE8.out.2, HS12.out⟩, by have := HLT.out; simp [intOf]; omega⟩
    · obtain rfl : y = 2 := by have h1 := HRD.out; omega
      clear hlt HRD HG
      go_wp2_with fail
      go_ret
      exact ⟨rfl, HS.out.below⟩
end Go.Proofs.Ytbjmblfifnjafaa
