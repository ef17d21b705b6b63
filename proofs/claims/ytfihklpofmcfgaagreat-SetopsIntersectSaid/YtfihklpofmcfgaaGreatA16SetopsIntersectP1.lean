/- Of the proof of A16SetopsIntersectP: SetPl0, RefInt, LawStInt. -/
import Derived.Test.YtfihklpofmcfgaaGreatA1618
import Derived.Deep.RegionHeldLaw
import Derived.Deep.RegionHeld3
import Derived.Deep.QuietTactic
import Derived.Deep.DeepCutAuto
set_option linter.unusedVariables false
namespace Go.Proofs.YtfihklpofmcfgaaGreat
theorem intE_take {l m : List En} {p : Int} {j : Nat} {e : En} (h : l[j]? = some e) : intE (l.take (j + 1)) m p = intE (l.take j) m p ++ (bothE m p e).toList := by
  obtain ⟨hj, rfl⟩ := List.getElem?_eq_some_iff.1 h
  unfold intE
  rw [List.take_succ_eq_append_getElem hj, List.filterMap_append]
  congr 1
theorem intE_len (l m : List En) (p : Int) : (intE l m p).length ≤ l.length := List.length_filterMap_le _ _
theorem intE_wf {l m : List En} {p : Int} (hl : ∀ y ∈ l, i64R y.key ∧ i64R y.val) (hm : ∀ y ∈ m, i64R y.key ∧ i64R y.val) : ∀ y ∈ intE l m p, i64R y.key ∧ i64R y.val := fun y hy => by
  obtain ⟨x, hx, hb⟩ := List.mem_filterMap.1 hy
  unfold bothE at hb
  cases hg : getE m x.key with
  | none => rw [hg] at hb; cases hb
  | some z =>
    rw [hg] at hb
    cases hb
    exact ⟨(hl x hx).1, chooseV_in (hl x hx).2 (hm z (List.mem_of_find?_eq_some hg)).2⟩
end Go.Proofs.YtfihklpofmcfgaaGreat
set_option linter.unusedSimpArgs false
namespace Go.Proofs.YtfihklpofmcfgaaGreat
open Go.RowKit
set_option maxHeartbeats 4000000 in
set_option maxRecDepth 100000 in
theorem intersect_any {w : World} {a b : Option Addr} {n c k d : Nat} {l m : List En} (p : Int) (h : EnsAt w a l) (hn : l.length = n) (hl : n ≤ 100000) (h' : EnsAt w b m) (hk : m.length = k) (hm : k ≤ 100000) :
    Calls Tryz.prog 21 #[.slice a n c, .slice b k d, .int .i64 p] w (MadeEns w (intE l m p)) := by
  have HE := Lib.hid h
  have HE' := Lib.hid h'
  have HN : Hid (l.length = n ∧ n ≤ 100000 ∧ m.length = k ∧ k ≤ 100000) := ⟨hn, hl, hk, hm⟩
  have hni : (n : Int) ≤ 100000 := by omega
  have HLENB : Hid (∀ j, (intE (l.take j) m p).length ≤ 100000000) := fun j => by
    have h1 := intE_len (l.take j) m p
    have h2 := List.length_take_le' j l
    omega
  have HS : Hid (∀ j e, l[j]? = some e → intE (l.take (j + 1)) m p = intE (l.take j) m p ++ (bothE m p e).toList) := fun j e he => intE_take he
  have HR0 := Lib.hid (SubRel.start w (fun j => intE (l.take j) m p) n (by simp [intE]))
  clear h hn hl h' hk hm
  go_enter Tryz.func21, Tryz.ntmps21
  go_wp2_with fail
  go_loopw [7, 8] (fun x i wr => SubRel w (fun j => intE (l.take j) m p) n x i wr) (fun _ i _ => n - (intOf i).toNat)
  case atStart => exact HR0.out
  case round =>
    clear HR0
    obtain ⟨j, rfl, hj, hst⟩ := hrel
    replace hst : ESt w.heap.size w (intE (l.take j) m p) _ wr := hst
    have HST := Lib.hid hst
    have hj0 : (0 : Int) ≤ (j : Int) := by omega
    obtain ⟨xa, xc, rfl⟩ := hst.val
    clear hst
    by_cases hlt : j < n
    · have hji : (j : Int) < (n : Int) := by omega
      obtain ⟨e, he⟩ : ∃ e, l[j]? = some e := ⟨_, List.getElem?_eq_getElem (by have := HN.out; omega)⟩
      obtain ⟨g, off, rfl, hb, c0, c1⟩ := (HE.out.below HST.out.below).at he
      have hs := HS.out j e he
      have HX := Lib.hid hs
      have HLT := Lib.hid hlt
      have HGET := Lib.hid (get_any (c := d) e.key (HE'.out.below HST.out.below) HN.out.2.2.1 (by have := HN.out; omega))
      have HCC : Hid (∀ wx, Below w.heap.size w wx → wx.cell? ⟨g, off + j * 2, none⟩ = some (.int .i64 e.key) ∧ wx.cell? ⟨g, off + j * 2 + 1, none⟩ = some (.int .i64 e.val)) := fun wx hbx => by
        obtain ⟨g', off', hgg, -, d0, d1⟩ := (HE.out.below hbx).at he
        simp at hgg
        obtain ⟨rfl, rfl⟩ := hgg
        exact ⟨d0, d1⟩
      clear hs he hb hlt hj
      go_wp2_with fail
      refine HGET.out.mono ?_
      rintro e3 w3 ⟨rfl, rfl⟩
      clear HGET
      cases hgt : getE m e.key with
      | none =>
        have HY : Hid (intE (l.take (j + 1)) m p = intE (l.take j) m p) := by show _ = _; rw [HX.out]; unfold bothE; rw [hgt]; simp
        clear hgt
        go_wp2_with fail
        exact ⟨⟨j + 1, by go_num, by have := HLT.out; omega, by show ESt _ _ (intE (l.take (j + 1)) m p) _ _; rw [HY.out]; exact HST.out⟩, by have := HLT.out; simp [intOf]; omega⟩
      | some x =>
        have hy : intE (l.take (j + 1)) m p = intE (l.take j) m p ++ [⟨e.key, chooseV p e.val x.val⟩] := by rw [HX.out]; unfold bothE; rw [hgt]; rfl
        have hch : ∀ wx, Calls Tryz.prog 56 #[.int .i64 p, .int .i64 e.val, .int .i64 x.val] wx fun e' w' => e' = .returned (.int .i64 (chooseV p e.val x.val)) ∧ wx = w' := fun wx => choose_any p e.val x.val wx
        generalize chooseV p e.val x.val = CV at hy hch
        have HCH := Lib.hid hch
        have HY := Lib.hid hy
        have HSTD : Hid (ESt w.heap.size w (intE (l.take j) m p) (.slice xa (intE (l.take j) m p).length xc) w3.drew) := HST.out.from (Below.refl _ _).drew rfl
        clear hgt hy hch
        go_upto_region 7 with fail
        go_region_held3 (fun w' => w'.cell? ⟨g, off + j * 2, none⟩ = some (.int .i64 e.key) ∧ w'.cell? ⟨g, off + j * 2 + 1, none⟩ = some (.int .i64 e.val)) (go_keep) (first
          | (go_at_call 56; refine (HCH.out _).mono ?_; rintro e' w' ⟨rfl, rfl⟩)
          | (refine step_append_en rfl (.tmp 28) (.tmp 43) rfl (HSTD.out.from (below_newL _ _) rfl) rfl rfl ⟨e.key, CV⟩ _ rfl (cell_newE _ _ _) (HLENB.out j) ?_; intro v5 w5 hc5 hg5; obtain ⟨c0, c1⟩ := HCC.out w5 hc5.below))
        all_goals (go_wp2_with fail; exact ⟨⟨j + 1, by go_num, by have := HLT.out; omega, by show ESt _ _ (intE (l.take (j + 1)) m p) _ _; rw [HY.out]; exact hc5⟩, by have := HLT.out; simp [intOf]; omega⟩)
    · have hji : ¬ (j : Int) < (n : Int) := by omega
      have HK : Hid (intE (l.take j) m p = intE l m p) := by show _ = _; rw [List.take_of_length_le (by have := HN.out; omega)]
      clear hj hlt
      go_wp2_with fail
      go_ret
      rw [← HK.out]
      first
        | exact HST.out.made
        | (have := HST.out.made; simp only [List.length_take] at this; exact this)
set_option maxHeartbeats 16000000 in
set_option maxRecDepth 100000 in
theorem inter_walk (I : AImpl) (hchk : CheckSpec) (K : StImpl I) (KU : UpdImpl I) {a b : Option Addr} {n c k d : Nat} {raw other : List En} {tilt free : Int} {dv : Bool} {pol : Int} {w : World} (hE : EnsAt w a raw) (hn : raw.length = n) (hnm : n ≤ 9223372036854775807) (hE' : EnsAt w b other) (hk : other.length = k) (hkm : k ≤ 9223372036854775807) (ht0 : 0 ≤ tilt) (ht1 : tilt < 18446744073709551616) (hpol : i64R pol) (hf0 : 0 ≤ free) (hf1 : free < 65536) :
    Calls Tryz.prog 4 #[.slice a n c, .slice b k d, .int .u64 tilt, .bool dv, .int .i64 pol, .int .u16 free] w (Calm w (.bool true)) := by
  have HK := Lib.hid K
  have HCHK := Lib.hid hchk
  have hp0 := Int.emod_nonneg pol (b := 7) (by decide)
  have hp7 := Int.emod_lt_of_pos pol (b := 7) (by decide)
  obtain ⟨P, hP⟩ : ∃ P, pol % 7 = P := ⟨_, rfl⟩
  rw [hP] at hp0 hp7
  have HPOL : Hid (i64R P ∧ 0 ≤ P ∧ P < 7) := ⟨⟨by omega, by omega⟩, hp0, hp7⟩
  have HMOD : Hid (∀ wx, Calls Tryz.prog 15 #[.int .i64 pol, .int .i64 7] wx (fun e w' => e = .returned (.int .i64 P) ∧ wx = w')) := fun wx => (mod_any pol 7 wx hpol.1 hpol.2 (by decide) (by decide)).mono fun e w' ⟨h1, h2⟩ => ⟨by rw [h1, hP], h2⟩
  have HPA := Lib.hid (pair16_any I KU (c := c) (d := d) (dv := dv) hE hn hnm hE' hk hkm ht0 ht1 hf0 hf1)
  clear K KU hchk hE hn hnm hE' hk hkm ht0 ht1 hf0 hf1 hpol hp0 hp7 hP
  go_enter Tryz.func4, Tryz.ntmps4
  go_wp2_with fail
  refine HPA.out.mono ?_
  rintro e w1 ⟨p, A, x, y, tx, ty, l, m, rd, L, M1, la, ma, lc, mc, rs1, rfl, hp, hrdb⟩
  obtain ⟨pa, rfl⟩ : ∃ pa, p = .pointer (some pa) := by
    obtain ⟨F, f1, _⟩ := hp.scn.mr.has
    exact I.ptr f1
  have HP := Lib.hid hp
  have HRDB := Lib.hid hrdb
  have hLi : (L : Int) ≤ 70 := by have := hp.ll.2; omega
  have hMi : (M1 : Int) ≤ 76 := by have := hp.lm.2; omega
  have HXY : Hid (x < 4294967296 ∧ y < 4294967296) := ⟨hp.tx.idx, hp.ty.idx⟩
  clear hp hrdb HPA
  go_wp2_with fail
  refine (awake16_any I HK.out w1).mono ?_
  rintro e w2 ⟨rfl, hb2⟩
  have HS2 := Lib.hid (HP.out.scn.calm hb2)
  clear hb2
  go_wp2_with fail
  refine (HMOD.out _).mono ?_
  rintro e w2' ⟨rfl, rfl⟩
  obtain ⟨N, hN⟩ : ∃ N, A.σ.cap = N := ⟨_, rfl⟩
  obtain ⟨M, hM⟩ : ∃ M, A.σ.free.length = M := ⟨_, rfl⟩
  have HNM : Hid (A.σ.cap = N ∧ A.σ.free.length = M) := ⟨hN, hM⟩
  clear hN hM
  go_wp2_with fail
  refine HS2.out.dump.mono ?_
  rintro e w3 ⟨da, dc, db, dd, rfl, hs3, -⟩
  rw [HNM.out.1, HNM.out.2] at hs3 ⊢
  have HS3 := Lib.hid hs3
  clear hs3 HS2
  go_wp2_with fail
  refine HS3.out.reads.mono ?_
  rintro e w4 ⟨rfl, hs4⟩
  have hs5 := hs4.box #[.slice da N dc, .slice db M dd] 33
  clear hs4 HS3
  go_upto_region 6 with fail
  generalize w4.alloc (.cells #[.slice da N dc, .slice db M dd] 33) = w5 at hs5 ⊢
  generalize w4.heap.size = q at hs5 ⊢
  obtain ⟨rs, hrs⟩ : ∃ rs : List Row, rs = ⟨26, 1, .slice db M dd, M, u32s A.σ.free⟩ :: ⟨87, 11, .slice da N dc, N, slotsV A⟩ :: rs1 := ⟨_, rfl⟩
  rw [← hrs] at hs5
  have HR0 : Hid ((⟨26, 1, .slice db M dd, M, u32s A.σ.free⟩ : Row) ∈ rs) := by show _ ∈ _; rw [hrs]; simp
  have HR1 : Hid ((⟨87, 11, .slice da N dc, N, slotsV A⟩ : Row) ∈ rs) := by show _ ∈ _; rw [hrs]; simp
  have HRL : Hid ((⟨69, 2, .slice la L lc, L, ensV l⟩ : Row) ∈ rs ∧ (⟨69, 2, .slice ma M1 mc, M1, ensV m⟩ : Row) ∈ rs) := by show _ ∧ _; rw [hrs]; exact ⟨List.mem_cons_of_mem _ (List.mem_cons_of_mem _ HP.out.rl), List.mem_cons_of_mem _ (List.mem_cons_of_mem _ HP.out.rm)⟩
  have HS5 := Lib.hid hs5
  clear hs5 hrs
  have HCEL : Hid (∀ {wx : World} {C : Ar} {rdx : Int} {rs' : List Row} {bs' : List (Nat × Obj)}, Scn I w.heap.size w wx (.pointer (some pa)) C rdx rs' (bs' ++ [(q, .cells #[.slice da N dc, .slice db M dd] 33 (0, 0))]) → wx.cell? ⟨q, 0, none⟩ = some (.slice da N dc) ∧ wx.cell? ⟨q, 1, none⟩ = some (.slice db M dd)) := fun {wx C rdx rs' bs'} h => two_cells (h.boxes (q, .cells #[.slice da N dc, .slice db M dd] 33 (0, 0)) (by simp)).2
  have HSET := Lib.hid (set_pos (n := L) (m := M1) (by omega))
  have HSETN : Hid (setI (l.length : Int) (m.length : Int) = setI (L : Int) (M1 : Int)) := by show _ = _; rw [HP.out.ll.1, HP.out.lm.1]
  have HSO : Hid (∀ wx, Calls Tryz.prog 19 #[.int .i64 (L : Int), .int .i64 (M1 : Int)] wx (Calm wx (.int .i64 (setI (L : Int) (M1 : Int))))) := fun wx => refSetOperation_any _ _ _ ⟨by omega, by omega⟩ ⟨by omega, by omega⟩
  have HHS : Hid (∀ j, hof [x, y] j ≤ 1048000) := fun j => by have := hof_le [x, y] j; simp at this; omega
  go_wp2_with fail
  refine (HS5.out.mut fun F hI => HK.out.intersect P w5 hI HP.out.inv HHS.out HP.out.tx HP.out.ty HP.out.wl HP.out.wm HP.out.rd0.1 (by have := HP.out.rd0; omega) HPOL.out.1).mono ?_
  rintro e w6 ⟨B, rd6, hq, hs6⟩
  have HS6 := Lib.hid hs6
  clear hs6 HS5
  rcases hq with ⟨hpo, rfl, rfl, -, -⟩ | ⟨hpo, hq⟩
  · have HPO : Hid (decide (1 ≤ P ∧ P ≤ 5) = false) := decide_eq_false hpo
    clear hpo
    go_wp2_with fail
    refine (policy_any P w6).mono ?_
    rw [HPO.out]
    rintro e w6' ⟨rfl, rfl⟩
    obtain ⟨q0, q1⟩ := HCEL.out (bs' := []) HS6.out
    have hSd := HS6.out.calm (Below.refl _ _).drew
    have HN65 : Hid (N ≤ 65536 ∧ M ≤ 65536) := by have h1 := HP.out.inv.ok.len; have h2 := HP.out.inv.ok.cap2; have h3 := HNM.out; exact ⟨by omega, by omega⟩
    go_upto_region 8 with fail
    go_region_held3 (fun w' => w'.cell? ⟨q, 0, none⟩ = some (.slice da N dc) ∧ w'.cell? ⟨q, 1, none⟩ = some (.slice db M dd)) (go_keep) (first
      | (go_at_call 10; refine hSd.dump.mono ?_; rintro e wC ⟨ea, ec, eb, ed, rfl, hsC, -⟩; rw [HNM.out.1, HNM.out.2] at hsC ⊢; obtain ⟨q0, q1⟩ := HCEL.out (bs' := []) hsC)
      | (go_at_call 13; refine (same_dump B.σ.free HNM.out.2 (hsC.slots_of (c := ec) HP.out.inv HNM.out.1 (by simp)) (hsC.slots_of (c := dc) HP.out.inv HNM.out.1 (by simp [HR1.out])) (hsC.rows ⟨26, 1, .slice eb M ed, M, u32s B.σ.free⟩ (by simp)) (hsC.rows ⟨26, 1, .slice db M dd, M, u32s B.σ.free⟩ (by simp [HR0.out])) HN65.out.1 HN65.out.2).mono ?_; rintro e wD ⟨rfl, hbD⟩; have hsD := hsC.calm hbD; obtain ⟨q0, q1⟩ := HCEL.out (bs' := []) hsD))
    all_goals (go_wp2_with fail; go_ret; exact ⟨rfl, hsD.below⟩)
  · have HPO : Hid (decide (1 ≤ P ∧ P ≤ 5) = true) := decide_eq_true hpo
    obtain ⟨i, ev, rfl⟩ := hq.ret
    have HQ := Lib.hid hq
    clear hpo hq
    go_wp2_with fail
    refine (policy_any P w6).mono ?_
    rw [HPO.out]
    rintro e w6' ⟨rfl, rfl⟩
    obtain ⟨sm, hsm⟩ : ∃ sm : Bool, sm = true ↔ (x = 0 ∨ y = 0 ∨ (x = y ∧ P ≠ 3)) := ⟨decide (x = 0 ∨ y = 0 ∨ (x = y ∧ P ≠ 3)), by rw [decide_eq_true_eq]⟩
    have HSM := Lib.hid hsm
    clear hsm
    go_upto_region 9 with fail
    go_cut [24, 25] from 74 to 89 (fun s24 s25 wx => s24 = .bool sm ∧ s25 = .int .u32 (x : Int) ∧ w6 = wx)
    case first =>
      by_cases hx : x = 0
      · have q1 : ((x : Int) == 0) = true := by simp [hx]
        have HB : Hid (sm = true) := HSM.out.2 (.inl hx)
        clear hx
        go_wp2_with fail
        go_meet
        exact ⟨by rw [HB.out], rfl, rfl⟩
      by_cases hy : y = 0
      · have q1 : ((x : Int) == 0) = false := by simp; omega
        have q2 : ((y : Int) == 0) = true := by simp [hy]
        have HB : Hid (sm = true) := HSM.out.2 (.inr (.inl hy))
        clear hx hy
        go_wp2_with fail
        go_meet
        exact ⟨by rw [HB.out], rfl, rfl⟩
      have q1 : ((x : Int) == 0) = false := by simp; omega
      have q2 : ((y : Int) == 0) = false := by simp; omega
      by_cases hxy : x = y
      · have q3 : ((x : Int) == (y : Int)) = true := by simp [hxy]
        by_cases h3 : P = 3
        · have q4 : (P != 3) = false := by simp [h3]
          have HB : Hid (sm = false) := by show _ = _; cases hb : sm with | false => rfl | true => rcases HSM.out.1 hb with h | h | h; exact absurd h hx; exact absurd h hy; exact absurd h3 h.2
          clear hx hy hxy h3
          go_wp2_with fail
          go_meet
          exact ⟨by rw [HB.out], rfl, rfl⟩
        · have q4 : (P != 3) = true := by simp [h3]
          have HB : Hid (sm = true) := HSM.out.2 (.inr (.inr ⟨hxy, h3⟩))
          clear hx hy hxy h3
          go_wp2_with fail
          go_meet
          exact ⟨by rw [HB.out], rfl, rfl⟩
      · have q3 : ((x : Int) == (y : Int)) = false := by simp; omega
        have HB : Hid (sm = false) := by show _ = _; cases hb : sm with | false => rfl | true => rcases HSM.out.1 hb with h | h | h; exact absurd h hx; exact absurd h hy; exact absurd h.1 hxy
        clear hx hy hxy
        go_wp2_with fail
        go_meet
        exact ⟨by rw [HB.out], rfl, rfl⟩
    case' rest =>
      obtain ⟨rfl, rfl, rfl⟩ := hcut
      go_upto_region 10 with fail
      obtain ⟨zz, hzz⟩ : ∃ zz : Bool, zz = true ↔ (x = 0 ∨ y = 0) := ⟨decide (x = 0 ∨ y = 0), by rw [decide_eq_true_eq]⟩
      have HZZ := Lib.hid hzz
      clear hzz
      go_cut [95] from 90 to 95 (fun s95 wx => s95 = .bool zz ∧ w6 = wx)
      case first =>
        by_cases hx : x = 0
        · have q1 : ((x : Int) == 0) = true := by simp [hx]
          have HB : Hid (zz = true) := HZZ.out.2 (.inl hx)
          clear hx
          go_wp2_with fail
          go_meet
          exact ⟨by rw [HB.out], rfl⟩
        · have q1 : ((x : Int) == 0) = false := by simp; omega
          by_cases hy : y = 0
          · have q2 : ((y : Int) == 0) = true := by simp [hy]
            have HB : Hid (zz = true) := HZZ.out.2 (.inr hy)
            clear hx hy
            go_wp2_with fail
            go_meet
            exact ⟨by rw [HB.out], rfl⟩
          · have q2 : ((y : Int) == 0) = false := by simp; omega
            have HB : Hid (zz = false) := by show _ = _; cases hb : zz with | false => rfl | true => rcases HZZ.out.1 hb with h | h; exact absurd h hx; exact absurd h hy
            clear hx hy
            go_wp2_with fail
            go_meet
            exact ⟨by rw [HB.out], rfl⟩
      case' rest =>
        obtain ⟨rfl, rfl⟩ := hcut
        obtain ⟨res, hres⟩ : ∃ res : Nat, (if x = 0 ∨ y = 0 then 0 else x) = res := ⟨_, rfl⟩
        rw [hres] at HQ
        have HRES := Lib.hid hres
        clear hres
        go_upto_if 95 with fail
        go_cut [25] from 96 to 96 (fun s25 wx => s25 = .int .u32 (res : Int) ∧ w6 = wx)
        case first =>
          cases zz with
          | false =>
            have HX : Hid (res = x) := by show _ = _; rw [← HRES.out, if_neg (fun h => by have := HZZ.out.2 h; cases this)]
            go_wp2_with fail
            go_meet
            exact ⟨by rw [HX.out], rfl⟩
          | true =>
            have HX : Hid (res = 0) := by show _ = _; rw [← HRES.out, if_pos (HZZ.out.1 rfl)]
            go_wp2_with fail
            go_meet
            exact ⟨by rw [HX.out]; rfl, rfl⟩
        case' rest =>
          obtain ⟨rfl, rfl⟩ := hcut
          clear HZZ HRES
          have HBT : Hid (∀ u v : World, Below w6.heap.size w6 u → Below u.heap.size u v → Below w6.heap.size w6 v) := fun u v h1 h2 => h1.trans (h2.mono h1.size)
          have HCX : Hid (∀ wx, Below w6.heap.size w6 wx → wx.cell? ⟨q, 0, none⟩ = some (.slice da N dc) ∧ wx.cell? ⟨q, 1, none⟩ = some (.slice db M dd)) := fun wx hb => HCEL.out (bs' := []) (HS6.out.calm hb)
          have HEL : Hid (∀ wx, Below w6.heap.size w6 wx → EnsAt wx la l ∧ EnsAt wx ma m) := fun wx hb => ⟨ens_row (w := wx) (B := w.heap.size) (c := lc) HP.out.ll.1 ((HS6.out.calm hb).rows _ HRL.out.1) HP.out.wl, ens_row (w := wx) (B := w.heap.size) (c := mc) HP.out.lm.1 ((HS6.out.calm hb).rows _ HRL.out.2) HP.out.wm⟩
          obtain ⟨WL, hWL⟩ : ∃ n, (intE l m P).length = n := ⟨_, rfl⟩
          have HWL : Hid ((intE l m P).length = WL ∧ WL ≤ 65536) := ⟨hWL, by have h1 := intE_len l m P; have h2 := HP.out.ll; omega⟩
          clear hWL
          have HREF : Hid (∀ wx, Below w6.heap.size w6 wx → Calls Tryz.prog 21 #[.slice la L lc, .slice ma M1 mc, .int .i64 P] wx (fun e w' => ∃ a c, e = .returned (.slice a WL c) ∧ EnsAt w' a (intE l m P) ∧ Below wx.heap.size wx w')) := fun wx hb => (intersect_any P (HEL.out wx hb).1 HP.out.ll.1 (by have := HP.out.ll; omega) (HEL.out wx hb).2 HP.out.lm.1 (by have := HP.out.lm; omega)).mono fun e w' h => made_ens h (intE_wf HP.out.wl HP.out.wm) HWL.out.1
          have hbd : Below w6.heap.size w6 w6.drew := (Below.refl _ _).drew
          obtain ⟨q0, q1⟩ := HCX.out _ (Below.refl _ _)
          go_upto_region 12 with fail
          go_region_held3 (fun w' => w'.cell? ⟨q, 0, none⟩ = some (.slice da N dc) ∧ w'.cell? ⟨q, 1, none⟩ = some (.slice db M dd)) (go_keep) (first
            | (go_at_call 21; refine (HREF.out _ (by assumption)).mono ?_; rintro e wI ⟨ai, ci, rfl, hEI, hbI⟩; have hBI := HBT.out _ _ (by assumption) hbI; obtain ⟨q0, q1⟩ := HCX.out _ hBI)
            | (go_at_call 19; refine (HSO.out _).mono ?_; rintro e wS ⟨rfl, hbS⟩; have hBS := HBT.out _ _ (by assumption) hbS; obtain ⟨q0, q1⟩ := HCX.out _ hBS)
            | (go_at_call 17; refine (checked_any HCHK.out ((HS6.out.calm (by assumption)).less (List.Sublist.refl _) (List.nil_sublist _)) HQ.out HSM.out HSETN.out HP.out.inv HNM.out.1 HNM.out.2 HP.out.tx HP.out.ty HR0.out HR1.out (by first | exact hEI | exact hEI.below hbS) HWL.out.1 HWL.out.2 (intE_up HP.out.tx.up m P) HP.out.rd0.1 (by have := HP.out.rd0; omega) HSET.out.1 (by have := HSET.out; omega)).mono ?_; rintro e wZ ⟨rfl, hbZ⟩; have hBZ := HBT.out _ _ (by assumption) hbZ; obtain ⟨q0, q1⟩ := HCX.out _ hBZ))
          all_goals (go_wp2_with fail; go_ret; exact ⟨rfl, (HS6.out.calm hBZ).below⟩)
end Go.Proofs.YtfihklpofmcfgaaGreat
