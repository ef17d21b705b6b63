/- Of the proof of A16SetopsUnionP: Scene, StAid, LawStUni. -/
import Derived.Test.YtfihklpofmcfgaaGreatA1618
import Derived.Deep.RegionHeld3
import Derived.Deep.QuietTactic
import Derived.Deep.DeepCutAuto
set_option linter.unusedVariables false
set_option linter.unusedSimpArgs false
namespace Go.Proofs.YtfihklpofmcfgaaGreat
open Go.RowKit
section
variable {I : AImpl} {B : Nat} {w0 w w' : World} {p : Value} {A : Ar} {rd rd' : Int} {rs : List Row} {bs : List (Nat × Obj)}
/-- the first box is written anew -/
theorem Scn.set {g : Nat} {o o' : Obj} (h : Scn I B w0 w p A rd rs ((g, o) :: bs)) (hw : w'.heap[g]? = some o') (ho : w'.os = w.os ∧ w'.tape = w.tape ∧ w'.output = w.output ∧ w'.heap.size = w.heap.size ∧ ∀ k, k ≠ g → w'.heap[k]? = w.heap[k]?) :
    Scn I B w0 w' p A rd rs ((g, o') :: bs) := by
  obtain ⟨o1, o2, o3, o4, o5⟩ := ho
  obtain ⟨F, f1, f2, f3⟩ := h.mr.has
  obtain ⟨h1, h2⟩ := List.pairwise_cons.1 h.bb
  have hgB : B ≤ g := (h.boxes (g, o) (by simp)).1
  refine ⟨⟨⟨F, I.keep f1 fun k hk => o5 k fun e => (f3 g (.inr ⟨(g, o), by simp, rfl⟩)).2 (e ▸ hk), f2, fun k hk => ?_⟩, h.mr.below.trans ⟨o1, o2, o3, Nat.le_of_eq o4.symm, fun k hk => o5 k (by omega)⟩, by rw [o4]; exact h.mr.hB⟩, fun r hr => row_keep (h.rows r hr) fun k hk => o5 k fun e => h.rb r hr (g, o) (by simp) (e ▸ hk), fun b hb => ?_, h.rr, List.pairwise_cons.2 ⟨h1, h2⟩, fun r hr b hb => ?_⟩
  · have : SG rs ((g, o) :: bs) k := by
      rcases hk with hk | ⟨b, hb, rfl⟩
      · exact .inl hk
      · rcases List.mem_cons.1 hb with rfl | hb
        · exact .inr ⟨(g, o), by simp, rfl⟩
        · exact .inr ⟨b, by simp [hb], rfl⟩
    exact ⟨by rw [o4]; exact (f3 k this).1, (f3 k this).2⟩
  · rcases List.mem_cons.1 hb with rfl | hb
    · exact ⟨hgB, hw⟩
    · exact ⟨(h.boxes b (by simp [hb])).1, (o5 b.1 (fun e => h1 b hb e.symm)).trans (h.boxes b (by simp [hb])).2⟩
  · rcases List.mem_cons.1 hb with rfl | hb
    · exact h.rb r hr (g, o) (by simp)
    · exact h.rb r hr b (by simp [hb])
/-- a box of two numbers is written -/
theorem Scn.set2 {g : Nat} {x0 y0 : Value} {t : TypeId} (h : Scn I B w0 w p A rd rs ((g, .cells #[x0, y0] t (0, 0)) :: bs)) (x y : Value) :
    Scn I B w0 ((w.setCell ⟨g, 0, none⟩ x).setCell ⟨g, 1, none⟩ y) p A rd rs ((g, .cells #[x, y] t (0, 0)) :: bs) := by
  refine h.set ?_ ⟨rfl, rfl, rfl, by simp [World.setCell], fun k hk => by rw [heap_setCell_other _ _ _ _ hk, heap_setCell_other _ _ _ _ hk]⟩
  rw [heap_setCell_same _ g 1 _ _ _ (heap_setCell_same w g 0 _ _ _ (h.boxes (g, .cells #[x0, y0] t (0, 0)) (by simp)).2)]; rfl
end
theorem set_bd {n m : Nat} (h : n + m ≤ 1000) : setBd n m ≤ 100100000 := by unfold setBd; omega
theorem policy_quiet (p : Int) (v : Bool) (hv : decide (1 ≤ p ∧ p ≤ 5) = v) (w : World) : Calls Tryz.prog 12 #[.int .i64 p] w (Quiet w (.bool v)) := (policy_any p w).mono fun e w' h => ⟨by rw [h.1, hv], 0, h.2.symm⟩
def UniMid (I : AImpl) (B : Nat) (w : World) (p : Value) (x y : Nat) (tx ty : Tr) (l m : List En) (rs : List Row) (bs : List (Nat × Obj)) (wx : World) : Prop :=
  ∃ (A1 : Ar) (rd1 : Int), Scn I B w wx p A1 rd1 rs bs ∧ A1.Inv [] (hof [x, y]) ∧ A1.Agg ∧ TreeAt A1 x tx l ∧ TreeAt A1 y ty m ∧ 0 ≤ rd1 ∧ rd1 ≤ 1000000000
theorem PolQ.ret {A B : Ar} {rd rd' pol : Int} {held : Nat → Nat} {l m want : List En} {same : Prop} {res : Nat} {en : Ending} (h : PolQ A rd held l m want pol same res en B rd') : ∃ (x : Nat) (e : Int), en = .returned (.tuple #[.int .u32 (x : Int), .int .i64 e]) := by
  rcases h with ⟨-, rfl, -⟩ | ⟨-, h⟩
  · exact ⟨0, 1, rfl⟩
  · exact h.ret
set_option maxHeartbeats 16000000 in
set_option maxRecDepth 100000 in
theorem union_walk (I : AImpl) (hchk : CheckSpec) (K : StImpl I) (KU : UpdImpl I) {a b : Option Addr} {n c k d : Nat} {raw other : List En} {tilt free : Int} {dv : Bool} {pol : Int} {w : World} (hE : EnsAt w a raw) (hn : raw.length = n) (hnm : n ≤ 9223372036854775807) (hE' : EnsAt w b other) (hk : other.length = k) (hkm : k ≤ 9223372036854775807) (ht0 : 0 ≤ tilt) (ht1 : tilt < 18446744073709551616) (hpol : i64R pol) (hf0 : 0 ≤ free) (hf1 : free < 65536) :
    Calls Tryz.prog 3 #[.slice a n c, .slice b k d, .int .u64 tilt, .bool dv, .int .i64 pol, .int .u16 free] w (Calm w (.bool true)) := by
  have HK := Lib.hid K
  have HCHK := Lib.hid hchk
  have hp0 := Int.emod_nonneg pol (b := 5) (by decide)
  have hp7 := Int.emod_lt_of_pos pol (b := 5) (by decide)
  obtain ⟨P0, hP0⟩ : ∃ P, pol % 5 = P := ⟨_, rfl⟩
  rw [hP0] at hp0 hp7
  obtain ⟨P, hPP⟩ : ∃ P, 1 + P0 = P := ⟨_, rfl⟩
  have HPOL : Hid (i64R P ∧ polOk P ∧ i64R pol) := ⟨⟨by omega, by omega⟩, ⟨by omega, by omega⟩, hpol⟩
  have hwp : IntKind.i64.wrap (1 + P0) = P := by rw [IntKind.wrap_i64]; omega
  have HMOD : Hid (∀ wx, Calls Tryz.prog 15 #[.int .i64 pol, .int .i64 5] wx (fun e w' => e = .returned (.int .i64 P0) ∧ wx = w')) := fun wx => (mod_any pol 5 wx hpol.1 hpol.2 (by decide) (by decide)).mono fun e w' ⟨h1, h2⟩ => ⟨by rw [h1, hP0], h2⟩
  have HPA := Lib.hid (pair16_any I KU (c := c) (d := d) (dv := dv) hE hn hnm hE' hk hkm ht0 ht1 hf0 hf1)
  clear K KU hchk hE hn hnm hE' hk hkm ht0 ht1 hf0 hf1 hpol hp0 hp7 hP0 hPP
  go_enter Tryz.func3, Tryz.ntmps3
  go_wp2_with fail
  refine HPA.out.mono ?_
  rintro e w1 ⟨p, A, x, y, tx, ty, l, m, rd, L, M1, la, ma, lc, mc, rs1, rfl, hp, hrdb⟩
  obtain ⟨pa, rfl⟩ : ∃ pa, p = .pointer (some pa) := by
    obtain ⟨F, f1, _⟩ := hp.scn.mr.has
    exact I.ptr f1
  have HP := Lib.hid hp
  have HRDB := Lib.hid hrdb
  have hLi : (L : Int) ≤ 70 := by have := hp.ll.2; omega
  have hMi : (M1 : Int) ≤ 76 := by have := hp.lm.2; omega
  have HXY : Hid (x < 4294967296 ∧ y < 4294967296) := ⟨hp.tx.idx, hp.ty.idx⟩
  clear hp hrdb HPA
  go_wp2_with fail
  refine (awake16_any I HK.out w1).mono ?_
  rintro e w2 ⟨rfl, hb2⟩
  have HS2 := Lib.hid (HP.out.scn.calm hb2)
  clear hb2
  obtain ⟨N, hN⟩ : ∃ N, A.σ.cap = N := ⟨_, rfl⟩
  obtain ⟨M, hM⟩ : ∃ M, A.σ.free.length = M := ⟨_, rfl⟩
  have HNM : Hid (A.σ.cap = N ∧ A.σ.free.length = M) := ⟨hN, hM⟩
  clear hN hM
  go_wp2_with fail
  refine HS2.out.dump.mono ?_
  rintro e w3 ⟨da, dc, db, dd, rfl, hs3, -⟩
  rw [HNM.out.1, HNM.out.2] at hs3 ⊢
  have hs5 := hs3.box #[.slice da N dc, .slice db M dd] 33
  clear hs3 HS2
  go_upto_region 5 with fail
  generalize w3.alloc (.cells #[.slice da N dc, .slice db M dd] 33) = w5 at hs5 ⊢
  generalize w3.heap.size = q at hs5 ⊢
  obtain ⟨rs, hrs⟩ : ∃ rs : List Row, rs = ⟨26, 1, .slice db M dd, M, u32s A.σ.free⟩ :: ⟨87, 11, .slice da N dc, N, slotsV A⟩ :: rs1 := ⟨_, rfl⟩
  rw [← hrs] at hs5
  have HR0 : Hid ((⟨26, 1, .slice db M dd, M, u32s A.σ.free⟩ : Row) ∈ rs) := by show _ ∈ _; rw [hrs]; simp
  have HR1 : Hid ((⟨87, 11, .slice da N dc, N, slotsV A⟩ : Row) ∈ rs) := by show _ ∈ _; rw [hrs]; simp
  have HRL : Hid ((⟨69, 2, .slice la L lc, L, ensV l⟩ : Row) ∈ rs ∧ (⟨69, 2, .slice ma M1 mc, M1, ensV m⟩ : Row) ∈ rs) := by show _ ∧ _; rw [hrs]; exact ⟨List.mem_cons_of_mem _ (List.mem_cons_of_mem _ HP.out.rl), List.mem_cons_of_mem _ (List.mem_cons_of_mem _ HP.out.rm)⟩
  have HS5 := Lib.hid hs5
  clear hs5 hrs
  have HCEL : Hid (∀ {wx : World} {C : Ar} {rdx : Int} {rs' : List Row} {bs' : List (Nat × Obj)}, Scn I w.heap.size w wx (.pointer (some pa)) C rdx rs' (bs' ++ [(q, .cells #[.slice da N dc, .slice db M dd] 33 (0, 0))]) → wx.cell? ⟨q, 0, none⟩ = some (.slice da N dc) ∧ wx.cell? ⟨q, 1, none⟩ = some (.slice db M dd)) := fun {wx C rdx rs' bs'} h => two_cells (h.boxes (q, .cells #[.slice da N dc, .slice db M dd] 33 (0, 0)) (by simp)).2
  have HSET := Lib.hid (set_pos (n := L) (m := M1) (by omega))
  have HSETN : Hid (setI (l.length : Int) (m.length : Int) = setI (L : Int) (M1 : Int)) := by show _ = _; rw [HP.out.ll.1, HP.out.lm.1]
  have HSO : Hid (∀ wx, Calls Tryz.prog 19 #[.int .i64 (L : Int), .int .i64 (M1 : Int)] wx (Calm wx (.int .i64 (setI (L : Int) (M1 : Int))))) := fun wx => refSetOperation_any _ _ _ ⟨by omega, by omega⟩ ⟨by omega, by omega⟩
  have HHS : Hid (∀ j, hof [x, y] j ≤ 1048000) := fun j => by have := hof_le [x, y] j; simp at this; omega
  go_wp2_with fail
  refine (HS5.out.mut fun F hI => HK.out.union pol w5 hI HP.out.inv HHS.out HP.out.tx HP.out.ty HP.out.wl HP.out.wm HP.out.rd0.1 (by have := HP.out.rd0; omega) HPOL.out.2.2).mono ?_
  rintro e w6 ⟨B, rd6, hq, hs6⟩
  have HS6 := Lib.hid hs6
  obtain ⟨i, ev, rfl⟩ := hq.ret
  have HQ0 := Lib.hid hq
  have HSB := Lib.hid (set_bd (n := l.length) (m := m.length) (by have := HP.out.ll; have := HP.out.lm; omega))
  clear hs6 hq HS5
  go_upto_region 6 with fail
  go_cut [74] from 57 to 74 (fun s74 wx => s74 = .bool false ∧ Scn I w.heap.size w wx (.pointer (some pa)) B rd6 rs [(q, .cells #[.slice da N dc, .slice db M dd] 33 (0, 0))])
  case first =>
    rcases HQ0.out with ⟨hpo, he, hBA, -, -⟩ | ⟨hpo, -⟩
    · subst hBA
      obtain ⟨hi0, rfl⟩ : (i : Int) = 0 ∧ ev = 1 := by simpa using he
      obtain rfl : i = 0 := by omega
      have HPO : Hid (decide (1 ≤ pol ∧ pol ≤ 5) = false) := decide_eq_false hpo
      clear hpo he hi0 HQ0
      have HPQ := Lib.hid (policy_quiet pol false HPO.out)
      obtain ⟨q0, q1⟩ := HCEL.out (bs' := []) HS6.out
      have hSd := HS6.out.calm (Below.refl _ _).drew
      have HN65 : Hid (N ≤ 65536 ∧ M ≤ 65536) := by have h1 := HP.out.inv.ok.len; have h2 := HP.out.inv.ok.cap2; have h3 := HNM.out; exact ⟨by omega, by omega⟩
      go_region_held3 (fun w' => w'.cell? ⟨q, 0, none⟩ = some (.slice da N dc) ∧ w'.cell? ⟨q, 1, none⟩ = some (.slice db M dd)) (go_keep) (first
        | (go_at_call 12; refine (policy_any pol _).mono ?_; rw [HPO.out]; rintro e wP ⟨rfl, rfl⟩)
        | (go_at_call 10; refine hSd.dump.mono ?_; rintro e wC ⟨ea, ec, eb, ed, rfl, hsC, -⟩; rw [HNM.out.1, HNM.out.2] at hsC ⊢; obtain ⟨q0, q1⟩ := HCEL.out (bs' := []) hsC)
        | (go_at_call 13; refine (same_dump B.σ.free HNM.out.2 (hsC.slots_of (c := ec) HP.out.inv HNM.out.1 (by simp)) (hsC.slots_of (c := dc) HP.out.inv HNM.out.1 (by simp [HR1.out])) (hsC.rows ⟨26, 1, .slice eb M ed, M, u32s B.σ.free⟩ (by simp)) (hsC.rows ⟨26, 1, .slice db M dd, M, u32s B.σ.free⟩ (by simp [HR0.out])) HN65.out.1 HN65.out.2).mono ?_; rintro e wD ⟨rfl, hbD⟩; have hsD := hsC.calm hbD; obtain ⟨q0, q1⟩ := HCEL.out (bs' := []) hsD))
      all_goals (go_wp2_with fail; go_meet; exact ⟨rfl, hsD.less ((List.sublist_cons_self _ _).trans (List.sublist_cons_self _ _)) (List.Sublist.refl _)⟩)
    · have HPO : Hid (decide (1 ≤ pol ∧ pol ≤ 5) = true) := decide_eq_true hpo
      clear hpo HQ0
      go_quiet ((go_at_call 12; exact Calls.quiet_of (policy_quiet pol true HPO.out _)))
      rename Nat => dq
      go_wp2_with fail
      go_meet
      exact ⟨rfl, HS6.out.calm (below_drewN (Below.refl _ _) dq)⟩
  case' rest =>
    obtain ⟨rfl, hs7⟩ := hcut
    rename World => w7
    have HS7 := Lib.hid hs7
    clear hs7 HS6
    obtain ⟨be, hbe⟩ : ∃ be : Bool, (ev == 0) = be := ⟨_, rfl⟩
    have HBE := Lib.hid hbe
    go_upto_if 76 with fail
    clear hbe
    go_cut [79] from 77 to 79 (fun s79 wx => UniMid I w.heap.size w (.pointer (some pa)) x y tx ty l m rs [(q, .cells #[.slice da N dc, .slice db M dd] 33 (0, 0))] wx)
    case first =>
      have hgot : (ev = 0 ∧ ∃ t, Got A (hof [x, y]) B i t (unionE l m pol) ∧ 0 ≤ rd6 ∧ rd6 ≤ 1000000000) ∨ (ev ≠ 0 ∧ B = A ∧ 0 ≤ rd6 ∧ rd6 ≤ 1000000000) := by
        have h0 := HP.out.rd0
        have h1 := HRDB.out
        have hsb := HSB.out
        rcases HQ0.out with ⟨-, he, hBA, g0, g1⟩ | ⟨-, g0, g1, hq⟩
        · obtain ⟨-, rfl⟩ : (i : Int) = 0 ∧ ev = 1 := by simpa using he
          exact .inr ⟨by decide, hBA, by omega, by omega⟩
        · rcases hq with ⟨-, -, he, ⟨t, hg⟩, -⟩ | ⟨-, -, he, hBA⟩ | ⟨-, -, j, t, he, hg⟩
          · obtain ⟨hi, rfl⟩ : (i : Int) = ((if x = 0 then y else x : Nat) : Int) ∧ ev = 0 := by simpa using he
            have hi2 : i = (if x = 0 then y else x) := by omega
            rw [← hi2] at hg
            exact .inl ⟨rfl, t, hg, by omega, by omega⟩
          · obtain ⟨-, rfl⟩ : (i : Int) = 0 ∧ ev = 2 := by simpa using he
            exact .inr ⟨by decide, hBA, by omega, by omega⟩
          · obtain ⟨hi, rfl⟩ : (i : Int) = (j : Int) ∧ ev = 0 := by simpa using he
            obtain rfl : i = j := by omega
            exact .inl ⟨rfl, t, hg, by omega, by omega⟩
      clear HQ0
      rcases hgot with ⟨rfl, t, hg, hr0, hr1⟩ | ⟨hev, hBA, hr0, hr1⟩
      · have HG := Lib.hid hg
        have HINV : Hid (B.Inv [] (hof (i :: [x, y]))) := by
          have h1 := hg.inv
          rw [hof_pls, hof_perm (show ([x, y] ++ [i]).Perm (i :: [x, y]) from List.perm_append_comm)] at h1
          exact h1
        have HRR : Hid (0 ≤ rd6 ∧ rd6 ≤ 1000000000) := ⟨hr0, hr1⟩
        obtain rfl : be = true := by rw [← HBE.out]; rfl
        clear hg hr0 hr1
        go_wp2_with fail
        refine (HS7.out.giveBack HINV.out HG.out.agg).mono ?_
        rintro e w8 ⟨mr, rfl, hv4, ha4, -, -, hs8⟩
        have hpos : ∀ u ∈ [x, y], u = 0 ∨ 0 < hof [x, y] u := fun u hu => by
          by_cases h0 : u = 0
          · exact .inl h0
          · exact .inr (hof_pos hu h0)
        have HN : Hid (Scn I w.heap.size w w8 (.pointer (some pa)) (B.gone i) rd6 rs [(q, .cells #[.slice da N dc, .slice db M dd] 33 (0, 0))] ∧ (B.gone i).Inv [] (hof [x, y]) ∧ (B.gone i).Agg ∧ TreeAt (B.gone i) x tx l ∧ TreeAt (B.gone i) y ty m) :=
          ⟨hs8, hv4, ha4, (HP.out.tx.kept HG.out.kept HG.out.inv HG.out.agg).gone hv4 ha4 (hpos x (by simp)), (HP.out.ty.kept HG.out.kept HG.out.inv HG.out.agg).gone hv4 ha4 (hpos y (by simp))⟩
        clear hv4 ha4 hs8 hpos
        go_wp2_with fail
        go_meet
        exact ⟨_, rd6, HN.out.1, HN.out.2.1, HN.out.2.2.1, HN.out.2.2.2.1, HN.out.2.2.2.2, HRR.out.1, HRR.out.2⟩
      · obtain rfl : be = false := by rw [← HBE.out]; simp [hev]
        have HRR : Hid (0 ≤ rd6 ∧ rd6 ≤ 1000000000 ∧ B = A) := ⟨hr0, hr1, hBA⟩
        clear hev hr0 hr1 hBA
        go_wp2_with fail
        go_meet
        exact ⟨B, rd6, HS7.out, by rw [HRR.out.2.2]; exact HP.out.inv, by rw [HRR.out.2.2]; exact HP.out.agg, by rw [HRR.out.2.2]; exact HP.out.tx, by rw [HRR.out.2.2]; exact HP.out.ty, HRR.out.1, HRR.out.2.1⟩
    case' rest =>
      obtain ⟨A1, rd1, hs8, hv8, ha8, htx8, hty8, hr80, hr81⟩ := hcut
      rename World => w8
      have HV8 : Hid (A1.Inv [] (hof [x, y]) ∧ A1.Agg ∧ TreeAt A1 x tx l ∧ TreeAt A1 y ty m ∧ 0 ≤ rd1 ∧ rd1 ≤ 1000000000) := ⟨hv8, ha8, htx8, hty8, hr80, hr81⟩
      have HS8 := Lib.hid hs8
      clear hs8 hv8 ha8 htx8 hty8 hr80 hr81 HS7 HQ0 HSB HBE HRDB HR0 HR1 HCEL HNM
      go_wp2_with fail
      refine (HMOD.out w8).mono ?_
      rintro e w8' ⟨rfl, rfl⟩
      go_wp2_with fail
      refine HS8.out.dump.mono ?_
      rintro e w9 ⟨ea, ec, eb, ed, rfl, hs9, -⟩
      obtain ⟨N2, hN2⟩ : ∃ N, A1.σ.cap = N := ⟨_, rfl⟩
      obtain ⟨M2, hM2⟩ : ∃ N, A1.σ.free.length = N := ⟨_, rfl⟩
      rw [hN2, hM2] at hs9 ⊢
      have HNM : Hid (A1.σ.cap = N2 ∧ A1.σ.free.length = M2) := ⟨hN2, hM2⟩
      have HS9 := Lib.hid hs9
      clear hN2 hM2 hs9 HS8
      go_wp2_with fail
      refine HS9.out.reads.mono ?_
      rintro e w10 ⟨rfl, hs10⟩
      have HB10 := (hs10.boxes (q, .cells #[.slice da N dc, .slice db M dd] 33 (0, 0)) (by simp)).2
      obtain ⟨q0, q1⟩ := two_cells HB10
      have f0 : w10.frozen? ⟨q, 0, none⟩ = false := frozen_of_row _ _ _ _ _ HB10
      have f1 : w10.frozen? ⟨q, 1, none⟩ = false := frozen_of_row _ _ _ _ _ HB10
      have hs11 := hs10.set2 (.slice ea N2 ec) (.slice eb M2 ed)
      have HS11 := Lib.hid hs11
      clear hs10 hs11 HB10 HS9
      go_upto_region 12 with fail
      generalize (w10.setCell ⟨q, 0, none⟩ (.slice ea N2 ec)).setCell ⟨q, 1, none⟩ (.slice eb M2 ed) = w11 at HS11 ⊢
      clear q0 q1 f0 f1
      obtain ⟨rs2, hrs2⟩ : ∃ rs2 : List Row, rs2 = ⟨26, 1, .slice eb M2 ed, M2, u32s A1.σ.free⟩ :: ⟨87, 11, .slice ea N2 ec, N2, slotsV A1⟩ :: rs := ⟨_, rfl⟩
      rw [← hrs2] at HS11
      have HR0 : Hid ((⟨26, 1, .slice eb M2 ed, M2, u32s A1.σ.free⟩ : Row) ∈ rs2) := by show _ ∈ _; rw [hrs2]; simp
      have HR1 : Hid ((⟨87, 11, .slice ea N2 ec, N2, slotsV A1⟩ : Row) ∈ rs2) := by show _ ∈ _; rw [hrs2]; simp
      have HRL2 : Hid ((⟨69, 2, .slice la L lc, L, ensV l⟩ : Row) ∈ rs2 ∧ (⟨69, 2, .slice ma M1 mc, M1, ensV m⟩ : Row) ∈ rs2) := by show _ ∧ _; rw [hrs2]; exact ⟨List.mem_cons_of_mem _ (List.mem_cons_of_mem _ HRL.out.1), List.mem_cons_of_mem _ (List.mem_cons_of_mem _ HRL.out.2)⟩
      have HP2 : Hid (Paired16 I w (.pointer (some pa)) A1 x y tx ty l m rd1 L M1 la ma lc mc rs2 w11) := ⟨HS11.out.less (List.Sublist.refl _) (List.nil_sublist _), HRL2.out.1, HRL2.out.2, HV8.out.1, HV8.out.2.1, HV8.out.2.2.1, HV8.out.2.2.2.1, HP.out.wl, HP.out.wm, HP.out.ll, HP.out.lm, HV8.out.2.2.2.2⟩
      clear HRL HP HV8 hrs2
      have HRL := HRL2
      have HP := HP2
      clear HRL2 HP2
      have HCEL : Hid (∀ {wx : World} {C : Ar} {rdx : Int} {rs' : List Row} {bs' : List (Nat × Obj)}, Scn I w.heap.size w wx (.pointer (some pa)) C rdx rs' (bs' ++ [(q, .cells #[.slice ea N2 ec, .slice eb M2 ed] 33 (0, 0))]) → wx.cell? ⟨q, 0, none⟩ = some (.slice ea N2 ec) ∧ wx.cell? ⟨q, 1, none⟩ = some (.slice eb M2 ed)) := fun {wx C rdx rs' bs'} h => two_cells (h.boxes (q, .cells #[.slice ea N2 ec, .slice eb M2 ed] 33 (0, 0)) (by simp)).2
      go_wp2_with fail
      refine (HS11.out.mut fun F hI => HK.out.union P w11 hI HP.out.inv HHS.out HP.out.tx HP.out.ty HP.out.wl HP.out.wm HP.out.rd0.1 (by have := HP.out.rd0; omega) HPOL.out.1).mono ?_
      rintro e w6 ⟨B2, rd12, hq, hs6⟩
      have HS6 := Lib.hid hs6
      clear hs6 HS11
      rcases hq with ⟨hpo, -⟩ | ⟨-, hq⟩
      · exact absurd HPOL.out.2.1 hpo
      obtain ⟨i2, ev2, rfl⟩ := hq.ret
      have HQ := Lib.hid hq
      clear hq
      obtain ⟨sm, hsm⟩ : ∃ sm : Bool, sm = true ↔ (x = 0 ∨ y = 0 ∨ (x = y ∧ P ≠ 3)) := ⟨decide (x = 0 ∨ y = 0 ∨ (x = y ∧ P ≠ 3)), by rw [decide_eq_true_eq]⟩
      have HSM := Lib.hid hsm
      clear hsm
      go_upto_region 13 with fail
      go_cut [26, 27] from 95 to 110 (fun s26 s27 wx => s26 = .bool sm ∧ s27 = .int .u32 (x : Int) ∧ w6 = wx)
      case first =>
        by_cases hx : x = 0
        · have q1 : ((x : Int) == 0) = true := by simp [hx]
          have HB : Hid (sm = true) := HSM.out.2 (.inl hx)
          clear hx
          go_wp2_with fail
          go_meet
          exact ⟨by rw [HB.out], rfl, rfl⟩
        by_cases hy : y = 0
        · have q1 : ((x : Int) == 0) = false := by simp; omega
          have q2 : ((y : Int) == 0) = true := by simp [hy]
          have HB : Hid (sm = true) := HSM.out.2 (.inr (.inl hy))
          clear hx hy
          go_wp2_with fail
          go_meet
          exact ⟨by rw [HB.out], rfl, rfl⟩
        have q1 : ((x : Int) == 0) = false := by simp; omega
        have q2 : ((y : Int) == 0) = false := by simp; omega
        by_cases hxy : x = y
        · have q3 : ((x : Int) == (y : Int)) = true := by simp [hxy]
          by_cases h3 : P = 3
          · have q4 : (P != 3) = false := by simp [h3]
            have HB : Hid (sm = false) := by show _ = _; cases hb : sm with | false => rfl | true => rcases HSM.out.1 hb with h | h | h; exact absurd h hx; exact absurd h hy; exact absurd h3 h.2
            clear hx hy hxy h3
            go_wp2_with fail
            go_meet
            exact ⟨by rw [HB.out], rfl, rfl⟩
          · have q4 : (P != 3) = true := by simp [h3]
            have HB : Hid (sm = true) := HSM.out.2 (.inr (.inr ⟨hxy, h3⟩))
            clear hx hy hxy h3
            go_wp2_with fail
            go_meet
            exact ⟨by rw [HB.out], rfl, rfl⟩
        · have q3 : ((x : Int) == (y : Int)) = false := by simp; omega
          have HB : Hid (sm = false) := by show _ = _; cases hb : sm with | false => rfl | true => rcases HSM.out.1 hb with h | h | h; exact absurd h hx; exact absurd h hy; exact absurd h.1 hxy
          clear hx hy hxy
          go_wp2_with fail
          go_meet
          exact ⟨by rw [HB.out], rfl, rfl⟩
      case' rest =>
        obtain ⟨rfl, rfl, rfl⟩ := hcut
        obtain ⟨res, hres⟩ : ∃ res : Nat, (if x = 0 then y else x) = res := ⟨_, rfl⟩
        rw [hres] at HQ
        have HRES := Lib.hid hres
        clear hres
        obtain ⟨zz, hzz⟩ : ∃ zz : Bool, ((x : Int) == 0) = zz := ⟨_, rfl⟩
        have HZZ := Lib.hid hzz
        go_upto_if 112 with fail
        clear hzz
        go_cut [27] from 113 to 113 (fun s27 wx => s27 = .int .u32 (res : Int) ∧ w6 = wx)
        case first =>
          cases zz with
          | false =>
            have HX : Hid (res = x) := by show _ = _; rw [← HRES.out, if_neg (fun h => by have := HZZ.out; subst h; cases this)]
            go_wp2_with fail
            go_meet
            exact ⟨by rw [HX.out], rfl⟩
          | true =>
            have HX : Hid (res = y) := by show _ = _; rw [← HRES.out, if_pos (by have := HZZ.out; simp at this; omega)]
            go_wp2_with fail
            go_meet
            exact ⟨by rw [HX.out], rfl⟩
        case' rest =>
          obtain ⟨rfl, rfl⟩ := hcut
          clear HZZ HRES
          have HBT : Hid (∀ u v : World, Below w6.heap.size w6 u → Below u.heap.size u v → Below w6.heap.size w6 v) := fun u v h1 h2 => h1.trans (h2.mono h1.size)
          have HCX : Hid (∀ wx, Below w6.heap.size w6 wx → wx.cell? ⟨q, 0, none⟩ = some (.slice ea N2 ec) ∧ wx.cell? ⟨q, 1, none⟩ = some (.slice eb M2 ed)) := fun wx hb => HCEL.out (bs' := []) (HS6.out.calm hb)
          have HEL : Hid (∀ wx, Below w6.heap.size w6 wx → EnsAt wx la l ∧ EnsAt wx ma m) := fun wx hb => ⟨ens_row (w := wx) (B := w.heap.size) (c := lc) HP.out.ll.1 ((HS6.out.calm hb).rows _ HRL.out.1) HP.out.wl, ens_row (w := wx) (B := w.heap.size) (c := mc) HP.out.lm.1 ((HS6.out.calm hb).rows _ HRL.out.2) HP.out.wm⟩
          obtain ⟨WL, hWL⟩ : ∃ n, (unionE l m P).length = n := ⟨_, rfl⟩
          have HWL : Hid ((unionE l m P).length = WL ∧ WL ≤ 65536) := ⟨hWL, by have h1 := unionE_len l m P; have h2 := HP.out.ll; have h3 := HP.out.lm; omega⟩
          clear hWL
          have HREF : Hid (∀ wx, Below w6.heap.size w6 wx → Calls Tryz.prog 18 #[.slice la L lc, .slice ma M1 mc, .int .i64 P] wx (fun e w' => ∃ a c, e = .returned (.slice a WL c) ∧ EnsAt w' a (unionE l m P) ∧ Below wx.heap.size wx w')) := fun wx hb => (union_any P (HEL.out wx hb).1 HP.out.ll.1 (by have := HP.out.ll; omega) (HEL.out wx hb).2 HP.out.lm.1 (by have := HP.out.lm; omega)).mono fun e w' h => (by obtain ⟨a, c, h1, h2, h3⟩ := h; rw [HWL.out.1] at h1; exact ⟨a, c, h1, h2, h3⟩)
          have hbd : Below w6.heap.size w6 w6.drew := (Below.refl _ _).drew
          obtain ⟨q0, q1⟩ := HCX.out _ (Below.refl _ _)
          go_upto_region 16 with fail
          go_region_held3 (fun w' => w'.cell? ⟨q, 0, none⟩ = some (.slice ea N2 ec) ∧ w'.cell? ⟨q, 1, none⟩ = some (.slice eb M2 ed)) (go_keep) (first
            | (go_at_call 18; refine (HREF.out _ (by assumption)).mono ?_; rintro e wI ⟨ai, ci, rfl, hEI, hbI⟩; have hBI := HBT.out _ _ (by assumption) hbI; obtain ⟨q0, q1⟩ := HCX.out _ hBI)
            | (go_at_call 19; refine (HSO.out _).mono ?_; rintro e wS ⟨rfl, hbS⟩; have hBS := HBT.out _ _ (by assumption) hbS; obtain ⟨q0, q1⟩ := HCX.out _ hBS)
            | (go_at_call 17; refine (checked_any HCHK.out ((HS6.out.calm (by assumption)).less (List.Sublist.refl _) (List.nil_sublist _)) HQ.out HSM.out HSETN.out HP.out.inv HNM.out.1 HNM.out.2 HP.out.tx HP.out.ty HR0.out HR1.out (by first | exact hEI | exact hEI.below hbS) HWL.out.1 HWL.out.2 (unionE_up HP.out.tx.up P m l HP.out.tx.up) HP.out.rd0.1 (by have := HP.out.rd0; omega) HSET.out.1 (by have := HSET.out; omega)).mono ?_; rintro e wZ ⟨rfl, hbZ⟩; have hBZ := HBT.out _ _ (by assumption) hbZ; obtain ⟨q0, q1⟩ := HCX.out _ hBZ))
          all_goals (go_wp2_with fail; go_ret; exact ⟨rfl, (HS6.out.calm hBZ).below⟩)
end Go.Proofs.YtfihklpofmcfgaaGreat
