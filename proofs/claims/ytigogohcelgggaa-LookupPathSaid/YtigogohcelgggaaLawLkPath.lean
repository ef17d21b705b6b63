/- LookupPath over contracts. -/
import Derived.Test.YtigogohcelgggaaLawLkGets
set_option linter.unusedVariables false
set_option linter.unusedSimpArgs false
namespace Go.Proofs.Ytigogohcelgggaa
open Go.RowKit
theorem path_lt {A : Ar} {i : Nat} {t : Tr} {l : List En} (h : TreeAt A i t l) (key : Int) {y : Nat} (hy : y ∈ pathT A.nd key t) : y < 4294967296 := by
  obtain ⟨held, hv⟩ := h.inv
  have hmem : ∀ u : Tr, ∀ y ∈ pathT A.nd key u, y ∈ u.idx := fun u => by
    induction u with
    | nil => intro y hy; cases hy
    | node i l r ihl ihr =>
      intro y hy
      unfold pathT at hy
      unfold Tr.idx
      rcases List.mem_cons.1 hy with rfl | hy
      · simp
      · split at hy
        · cases hy
        · split at hy
          · exact List.mem_append.2 (.inl (ihl y hy))
          · exact List.mem_append.2 (.inr (List.mem_cons_of_mem _ (ihr y hy)))
  have hon := h.sub.on y (hmem t y hy)
  have := hv.ok.on y hon
  have := hv.ok.cap2
  omega
/-- the search, while its path is compared -/
def WayRel (I : AImpl) (B : Nat) (w0 : World) (p : Value) (A : Ar) (key : Int) (P : List Nat) (T : Nat) (rs : List Row) (x k : Value) (wr : World) : Prop :=
  ∃ (j i : Nat) (u : Tr) (rd : Int), x = .int .u32 (i : Int) ∧ k = .int .i64 (j : Int) ∧ j ≤ T ∧ Sub A i u ∧ pathT A.nd key u = P.drop j ∧ 0 ≤ rd ∧ rd ≤ 1000000 + (j : Int) ∧ Scn I B w0 wr p A rd rs []
set_option maxHeartbeats 8000000 in
set_option maxRecDepth 100000 in
theorem path_walk (I : AImpl) (K : LkImpl I) {a : Option Addr} {n c : Nat} {raw : List En} {tilt key : Int} {at_ : Int} {w : World} (hE : EnsAt w a raw) (hn : raw.length = n) (hnm : n ≤ 9223372036854775807) (ht0 : 0 ≤ tilt) (ht1 : tilt < 18446744073709551616) (hkey : i64R key) (hat : -9223372036854775808 ≤ at_ ∧ at_ ≤ 9223372036854775807) :
    Calls Try.prog 6 #[.slice a n c, .int .u64 tilt, .int .i64 key, .int .i64 at_] w (Calm w (.bool true)) := by
  have HKEY := Lib.hid hkey
  clear hkey
  have HAT := Lib.hid hat
  clear hat
  have HK := Lib.hid K
  have HWF : Hid (∀ y ∈ listE raw 120, i64R y.key ∧ i64R y.val) := fun y hy => hE.wf y (listE_mem hy)
  have HL := Lib.hid (list_any (c := c) (k := 120) hE hn hnm (by decide))
  have HT : Hid (0 ≤ tilt ∧ tilt < 18446744073709551616) := ⟨ht0, ht1⟩
  have HUP := Lib.hid (listE_up raw 120)
  have HLEN := Lib.hid (listE_len raw 120)
  clear K hE hn hnm ht0 ht1
  go_enter Try.func6, Try.ntmps6
  go_wp2_with fail
  refine HL.out.mono ?_
  rintro e w1 ⟨a1, c1, rfl, hr1, hb1⟩
  have HR1 := Lib.hid hr1
  have HB1 := Lib.hid hb1
  clear hr1 hb1 HL
  generalize listE raw 120 = l at HUP HLEN HR1 HWF ⊢
  obtain ⟨L, hL⟩ : ∃ L, l.length = L := ⟨_, rfl⟩
  rw [hL] at HLEN HR1 ⊢
  have HLL := Lib.hid hL
  have hLi : (L : Int) ≤ 120 := by have := HLEN.out; omega
  have HE1 := Lib.hid (ens_row hL HR1.out HWF.out)
  have HC1 := Lib.hid (row_caps HR1.out)
  clear hL
  go_wp2_with fail
  refine (grow_any I (sp := 1) (m := L + 1) HE1.out HLL.out HC1.out.1 HC1.out.2 rfl (by omega) (by have := HLEN.out; omega) HT.out.1 HT.out.2).mono ?_
  rintro e w2 ⟨p, A, ri, t, F, rfl, hg⟩
  obtain ⟨pa, rfl⟩ := I.ptr hg.is
  have HTR := Lib.hid (hg.planted.tree HUP.out)
  have HPL := Lib.hid hg.planted
  have HS2 := Lib.hid (Scn.init hg HB1.out HR1.out)
  clear hg HR1 HE1 HC1 HT
  have hmost : mostI L ≤ 1000 ∧ 0 ≤ mostI L := by
    have h1 := (xh_spec (n := L) (by have := HLEN.out; omega)).2.1
    unfold mostI
    omega
  have HMOST := Lib.hid hmost
  have HML : Hid (mostI l.length = mostI L) := by show _ = _; rw [HLL.out]
  clear hmost
  go_wp2_with fail
  refine (awake9_any I HK.out w2).mono ?_
  rintro e w3 ⟨rfl, hb3⟩
  have HS3 := Lib.hid (HS2.out.calm hb3)
  clear hb3 HS2
  go_upto_region 5 with fail
  have HLI : Hid (∀ {wx : World} {rd : Int} {rs' : List Row} {bs' : List (Nat × Obj)}, Scn I w.heap.size w wx (.pointer (some pa)) A rd (rs' ++ [⟨37, 2, .slice a1 L c1, L, ensV l⟩]) bs' → EnsAt wx a1 l) := fun {wx rd rs' bs'} h => ens_row HLL.out (h.rows ⟨37, 2, .slice a1 L c1, L, ensV l⟩ (by simp)) HWF.out
  by_cases hL0 : 0 < L
  · have hli : (0 : Int) < (L : Int) := by omega
    have hli2 : decide ((L : Int) > 0) = true := decide_eq_true hli
    by_cases hev : at_.tmod 2 = 0
    · have hevq : (at_.tmod 2 == 0) = true := by simp; exact hev
      obtain ⟨D, hD⟩ : ∃ D, wrap64 (at_.tdiv 2) = D := ⟨_, rfl⟩
      have hDr : -9223372036854775808 ≤ D ∧ D ≤ 9223372036854775807 := by rw [← hD]; unfold wrap64; omega
      have hx6 := Int.emod_nonneg D (b := (L : Int)) (by omega)
      have hx7 := Int.emod_lt_of_pos D (b := (L : Int)) (by omega)
      obtain ⟨j, hj⟩ := Int.eq_ofNat_of_zero_le hx6
      have hjL : j < L := by omega
      have HMX : Hid (∀ wx, Calls Try.prog 20 #[.int .i64 D, .int .i64 (L : Int)] wx (fun e w' => e = .returned (.int .i64 (j : Int)) ∧ w' = wx)) := fun wx => (mod_any D L wx hDr.1 hDr.2 (by omega) (by omega)).mono fun e w' ⟨h1, h2⟩ => ⟨by rw [h1, hj], h2.symm⟩
      obtain ⟨e, he⟩ : ∃ e, l[j]? = some e := ⟨_, List.getElem?_eq_getElem (by have := HLL.out; omega)⟩
      have HEW := Lib.hid (HWF.out e (List.mem_of_getElem? he))
      obtain ⟨b, off, rfl, hb, c0, -⟩ := ((HLI.out (rs' := []) HS3.out)).at he
      have hji : (j : Int) < (L : Int) := by omega
      have hj0 : (0 : Int) ≤ (j : Int) := by omega
      have HDD := Lib.hid hD
      clear he hb hj hjL hx6 hx7 hev hD hDr
      go_upto_region 7 with (go_at_call 20; rw [HDD.out]; refine (HMX.out _).mono ?_; rintro e wy ⟨rfl, rfl⟩)
      clear HKEY c0
      have HKEY := Lib.hid HEW.out.1
      generalize e.key = key at HKEY ⊢
      have HPT : Hid (∃ P, pathT A.nd key t = P) := ⟨_, rfl⟩
      go_wp2_with fail
      refine HS3.out.reads.mono ?_
      rintro e w7 ⟨rfl, hs7⟩
      have HS7 := Lib.hid hs7
      clear hs7 HS3
      go_wp2_with fail
      refine (HS7.out.path fun F hI => HK.out.path key w7 hI HTR.out (by decide) (by decide) HKEY.out).mono ?_
      rintro e w8 ⟨pa1, pc1, rd8, rfl, hs8, h80, h81⟩
      rw [HML.out] at h81
      have hptl := pathT_ht A.nd key t
      have hth := HTR.out.ht (by rw [HLL.out]; have := HLEN.out; omega)
      rw [HLL.out] at hth
      obtain ⟨P, hP⟩ : ∃ P, pathT A.nd key t = P := ⟨_, rfl⟩
      rw [hP] at hs8 hptl ⊢
      obtain ⟨T, hT⟩ : ∃ T, P.length = T := ⟨_, rfl⟩
      rw [hT] at hs8 hptl ⊢
      have h80' := (xh_spec (n := L) (by have := HLEN.out; omega)).2.1
      have HPP := Lib.hid hP
      have HTT : Hid (P.length = T ∧ T ≤ xh L ∧ xh L < 80) := ⟨hT, by omega, h80'⟩
      have hTi : (T : Int) ≤ 80 := by have := HTT.out; omega
      obtain ⟨rows, hrw⟩ : ∃ x, ([⟨26, 1, .slice pa1 T pc1, T, u32s P⟩, ⟨37, 2, .slice (some ⟨b, off, none⟩) L c1, L, ensV l⟩] : List Row) = x := ⟨_, rfl⟩
      rw [hrw] at hs8
      have HRW := Lib.hid hrw
      have HS8 := Lib.hid hs8
      have HR8 : Hid (0 ≤ rd8 ∧ rd8 ≤ mostI L) := ⟨h80, by omega⟩
      have HPX : Hid (∀ y ∈ P, y < 4294967296) := fun y hy => by
        rw [← HPP.out] at hy
        exact path_lt HTR.out key hy
      clear hrw hs8 h80 h81 hptl hth hP hT h80' HS7 HPT
      go_wp2_with fail
      refine (most_any L _ (by have := HLEN.out; omega)).mono ?_
      rintro e w9 ⟨rfl, hb9⟩
      have HS9 := Lib.hid (HS8.out.calm hb9)
      clear hb9 HS8
      obtain ⟨M, hM⟩ : ∃ M, mostI L = M := ⟨_, rfl⟩
      rw [hM]
      have HMM := Lib.hid hM
      clear hM
      go_wp2_with fail
      refine (within_any (since := 0) HS9.out.mr (by decide) HR8.out.1 (by rw [← HMM.out]; have := HR8.out; omega) (by have := HR8.out; have := HMOST.out; omega) (by rw [← HMM.out]; have := HMOST.out; omega)).mono ?_
      rintro e w10 ⟨rfl, hb10⟩
      have hs10 := HS9.out.calm hb10
      have HR0 : Hid (WayRel I w.heap.size w (.pointer (some pa)) A key P T rows (.int .u32 (ri : Int)) (.int .i64 0) w10) := ⟨0, ri, t, rd8, rfl, rfl, Nat.zero_le _, HTR.out.sub, HPP.out, HR8.out.1, by have := HR8.out; have := HMOST.out; omega, hs10⟩
      have HOK : Hid (∃ held, A.Inv [] held) := HTR.out.inv
      clear hb10 hs10 HS9
      go_wp2_with fail
      go_loopw [15, 16] (fun x k wr => WayRel I w.heap.size w (.pointer (some pa)) A key P T rows x k wr) (fun _ k _ => T - (intOf k).toNat)
      case atStart => exact HR0.out
      case round =>
        clear HR0
        obtain ⟨j, i, u, rd, rfl, rfl, hj, hu, hpu, hrd0, hrd1, hS⟩ := hrel
        have HS := Lib.hid hS
        have HU := Lib.hid hu
        have HPU := Lib.hid hpu
        have HRD : Hid (0 ≤ rd ∧ rd ≤ 1000000 + (j : Int) ∧ j ≤ T) := ⟨hrd0, hrd1, hj⟩
        have hj0 : (0 : Int) ≤ (j : Int) := by omega
        clear hS hrd0 hrd1 hj
        by_cases hlt : j < T
        · have hji : (j : Int) < (T : Int) := by omega
          have HLT := Lib.hid hlt
          cases u with
          | nil => exact absurd (congrArg List.length hpu) (by rw [List.length_drop, HTT.out.1]; show ¬ 0 = _; have := HLT.out; omega)
          | node i2 l2 r2 =>
            obtain ⟨rfl, hi0, hon, hsl, hsr⟩ : i2 = i ∧ i ≠ 0 ∧ A.σ.on i = true ∧ Sub A (A.nd i).left l2 ∧ Sub A (A.nd i).right r2 := by
              cases hu with
              | node _ _ _ h1 h2 h3 h4 => exact ⟨rfl, h1, h2, h3, h4⟩
            unfold pathT at hpu
            have hPj : P[j]? = some i2 := by
              rw [← List.head?_drop, ← hpu]; rfl
            have hPd : P.drop (j + 1) = (if key = (A.nd i2).key then [] else if key < (A.nd i2).key then pathT A.nd key l2 else pathT A.nd key r2) := by
              rw [← List.tail_drop, ← hpu]; rfl
            have hi4 := HPX.out i2 (List.mem_of_getElem? hPj)
            have HON := Lib.hid hon
            have HSL := Lib.hid hsl
            have HSR := Lib.hid hsr
            have HPJ := Lib.hid hPj
            have HPD := Lib.hid hPd
            have HI4 := Lib.hid hi4
            clear hlt hu hpu hi0 hon hsl hsr hPj hPd hi4 HU HPU
            go_wp2_with fail
            refine (HS.out.node HRD.out.1 (by have := HRD.out; omega) HI4.out HON.out).mono ?_
            rintro e w11 ⟨rfl, hs11⟩
            have HS11 := Lib.hid hs11
            clear hs11 HS
            unfold ndRow
            go_upto_region 16 with fail
            have hs12 := HS11.out.box #[.int .i64 (A.nd i2).key, .int .i64 (A.nd i2).val, .int .u32 ((A.nd i2).left : Int), .int .u32 ((A.nd i2).right : Int), .int .i64 (A.nd i2).size, .int .i64 (A.nd i2).sum, .int .i64 (A.nd i2).mn, .int .i64 (A.nd i2).mx] 55
            generalize w11.alloc (Obj.cells #[.int .i64 (A.nd i2).key, .int .i64 (A.nd i2).val, .int .u32 ((A.nd i2).left : Int), .int .u32 ((A.nd i2).right : Int), .int .i64 (A.nd i2).size, .int .i64 (A.nd i2).sum, .int .i64 (A.nd i2).mn, .int .i64 (A.nd i2).mx] 55) = w12 at hs12 ⊢
            generalize w11.heap.size = gn at hs12 ⊢
            have hbx := (hs12.boxes _ (List.Mem.head _)).2
            have x0 : w12.cell? ⟨gn, 0, none⟩ = some (.int .i64 (A.nd i2).key) := by rw [cell_of_row _ _ _ _ _ _ hbx]; rfl
            have x2 : w12.cell? ⟨gn, 2, none⟩ = some (.int .u32 ((A.nd i2).left : Int)) := by rw [cell_of_row _ _ _ _ _ _ hbx]; rfl
            have x3 : w12.cell? ⟨gn, 3, none⟩ = some (.int .u32 ((A.nd i2).right : Int)) := by rw [cell_of_row _ _ _ _ _ _ hbx]; rfl
            have hrowP := hs12.rows ⟨26, 1, .slice pa1 T pc1, T, u32s P⟩ (by rw [← HRW.out]; simp)
            obtain ⟨gp, rfl, _, hcP⟩ := row_cell hrowP HLT.out
            have hcP2 : w12.cell? ⟨gp, j, none⟩ = some (.int .u32 (i2 : Int)) := by rw [hcP]; simp [u32s, HPJ.out]
            have HS12 := Lib.hid (hs12.less (rs' := rows) (bs' := []) (List.Sublist.refl _) (by simp))
            have hii : ((i2 : Int) != (i2 : Int)) = false := by simp
            clear hs12 hbx hrowP hcP HS11
            by_cases hke : key = (A.nd i2).key
            · have hkq : ((A.nd i2).key == key) = true := by simp; exact hke.symm
              have hTj : T = j + 1 := by
                have h := HPD.out
                rw [if_pos hke] at h
                have h2 := congrArg List.length h
                rw [List.length_drop, HTT.out.1] at h2
                have := HLT.out
                simp at h2
                omega
              have hjt : ((j : Int) == (T : Int) - 1) = true := by simp; omega
              have hwT : IntKind.i64.wrap ((T : Int) - 1) = (T : Int) - 1 := by rw [IntKind.wrap_i64]; omega
              clear hke hTj
              go_wp2_with fail
              go_ret
              exact ⟨rfl, HS12.out.below⟩
            · have hkq : ((A.nd i2).key == key) = false := by simp; exact fun e => hke e.symm
              have hpd := HPD.out
              rw [if_neg hke] at hpd
              by_cases hkl : key < (A.nd i2).key
              · have hkd : decide (key < (A.nd i2).key) = true := decide_eq_true hkl
                rw [if_pos hkl] at hpd
                have HEND : Hid (WayRel I w.heap.size w (.pointer (some pa)) A key P T rows (.int .u32 ((A.nd i2).left : Int)) (.int .i64 ((j : Int) + 1)) w12) := ⟨j + 1, _, l2, rd + 1, rfl, by go_num, by have := HLT.out; omega, HSL.out, hpd.symm, by have := HRD.out; omega, by have := HRD.out; omega, HS12.out⟩
                clear hke hkl hpd
                go_wp2_with fail
                exact ⟨HEND.out, by have := HLT.out; simp [intOf]; omega⟩
              · have hkd : decide (key < (A.nd i2).key) = false := decide_eq_false hkl
                rw [if_neg hkl] at hpd
                have HEND : Hid (WayRel I w.heap.size w (.pointer (some pa)) A key P T rows (.int .u32 ((A.nd i2).right : Int)) (.int .i64 ((j : Int) + 1)) w12) := ⟨j + 1, _, r2, rd + 1, rfl, by go_num, by have := HLT.out; omega, HSR.out, hpd.symm, by have := HRD.out; omega, by have := HRD.out; omega, HS12.out⟩
                clear hke hkl hpd
                go_wp2_with fail
                exact ⟨HEND.out, by have := HLT.out; simp [intOf]; omega⟩
        · have hji : ¬ (j : Int) < (T : Int) := by omega
          have hi0 : i = 0 := by
            have hd : P.drop j = [] := List.drop_of_length_le (by rw [HTT.out.1]; omega)
            rw [hd] at hpu
            cases hu with
            | nil => rfl
            | node _ _ _ _ _ _ _ => unfold pathT at hpu; cases hpu
          have hiq : ((i : Int) == 0) = true := by simp; exact hi0
          clear hlt hu hpu hi0
          go_wp2_with fail
          refine (height_kit (L : Int) wr (by omega) (by omega)).mono ?_
          rintro e w13 ⟨rfl, hb13⟩
          have HX : Hid (xhI (L : Int) = (xh L : Int)) := xhI_nat (by have := HLEN.out; omega)
          rw [HX.out]
          have hle : decide ((T : Int) ≤ (xh L : Int)) = true := decide_eq_true (by have := HTT.out; omega)
          have hle2 : decide (T ≤ xh L) = true := decide_eq_true HTT.out.2.1
          have hle3 : T ≤ xh L := HTT.out.2.1
          have HBZ := Lib.hid (HS.out.calm hb13).below
          clear hb13
          go_wp2_with fail
          go_ret
          exact ⟨rfl, HBZ.out⟩
    · have hevq : (at_.tmod 2 == 0) = false := by simp; exact hev
      clear hev
      go_upto_region 7 with fail
      have HPT : Hid (∃ P, pathT A.nd key t = P) := ⟨_, rfl⟩
      go_wp2_with fail
      refine HS3.out.reads.mono ?_
      rintro e w7 ⟨rfl, hs7⟩
      have HS7 := Lib.hid hs7
      clear hs7 HS3
      go_wp2_with fail
      refine (HS7.out.path fun F hI => HK.out.path key w7 hI HTR.out (by decide) (by decide) HKEY.out).mono ?_
      rintro e w8 ⟨pa1, pc1, rd8, rfl, hs8, h80, h81⟩
      rw [HML.out] at h81
      have hptl := pathT_ht A.nd key t
      have hth := HTR.out.ht (by rw [HLL.out]; have := HLEN.out; omega)
      rw [HLL.out] at hth
      obtain ⟨P, hP⟩ : ∃ P, pathT A.nd key t = P := ⟨_, rfl⟩
      rw [hP] at hs8 hptl ⊢
      obtain ⟨T, hT⟩ : ∃ T, P.length = T := ⟨_, rfl⟩
      rw [hT] at hs8 hptl ⊢
      have h80' := (xh_spec (n := L) (by have := HLEN.out; omega)).2.1
      have HPP := Lib.hid hP
      have HTT : Hid (P.length = T ∧ T ≤ xh L ∧ xh L < 80) := ⟨hT, by omega, h80'⟩
      have hTi : (T : Int) ≤ 80 := by have := HTT.out; omega
      obtain ⟨rows, hrw⟩ : ∃ x, ([⟨26, 1, .slice pa1 T pc1, T, u32s P⟩, ⟨37, 2, .slice a1 L c1, L, ensV l⟩] : List Row) = x := ⟨_, rfl⟩
      rw [hrw] at hs8
      have HRW := Lib.hid hrw
      have HS8 := Lib.hid hs8
      have HR8 : Hid (0 ≤ rd8 ∧ rd8 ≤ mostI L) := ⟨h80, by omega⟩
      have HPX : Hid (∀ y ∈ P, y < 4294967296) := fun y hy => by
        rw [← HPP.out] at hy
        exact path_lt HTR.out key hy
      clear hrw hs8 h80 h81 hptl hth hP hT h80' HS7 HPT
      go_wp2_with fail
      refine (most_any L _ (by have := HLEN.out; omega)).mono ?_
      rintro e w9 ⟨rfl, hb9⟩
      have HS9 := Lib.hid (HS8.out.calm hb9)
      clear hb9 HS8
      obtain ⟨M, hM⟩ : ∃ M, mostI L = M := ⟨_, rfl⟩
      rw [hM]
      have HMM := Lib.hid hM
      clear hM
      go_wp2_with fail
      refine (within_any (since := 0) HS9.out.mr (by decide) HR8.out.1 (by rw [← HMM.out]; have := HR8.out; omega) (by have := HR8.out; have := HMOST.out; omega) (by rw [← HMM.out]; have := HMOST.out; omega)).mono ?_
      rintro e w10 ⟨rfl, hb10⟩
      have hs10 := HS9.out.calm hb10
      have HR0 : Hid (WayRel I w.heap.size w (.pointer (some pa)) A key P T rows (.int .u32 (ri : Int)) (.int .i64 0) w10) := ⟨0, ri, t, rd8, rfl, rfl, Nat.zero_le _, HTR.out.sub, HPP.out, HR8.out.1, by have := HR8.out; have := HMOST.out; omega, hs10⟩
      have HOK : Hid (∃ held, A.Inv [] held) := HTR.out.inv
      clear hb10 hs10 HS9
      go_wp2_with fail
      go_loopw [15, 16] (fun x k wr => WayRel I w.heap.size w (.pointer (some pa)) A key P T rows x k wr) (fun _ k _ => T - (intOf k).toNat)
      case atStart => exact HR0.out
      case round =>
        clear HR0
        obtain ⟨j, i, u, rd, rfl, rfl, hj, hu, hpu, hrd0, hrd1, hS⟩ := hrel
        have HS := Lib.hid hS
        have HU := Lib.hid hu
        have HPU := Lib.hid hpu
        have HRD : Hid (0 ≤ rd ∧ rd ≤ 1000000 + (j : Int) ∧ j ≤ T) := ⟨hrd0, hrd1, hj⟩
        have hj0 : (0 : Int) ≤ (j : Int) := by omega
        clear hS hrd0 hrd1 hj
        by_cases hlt : j < T
        · have hji : (j : Int) < (T : Int) := by omega
          have HLT := Lib.hid hlt
          cases u with
          | nil => exact absurd (congrArg List.length hpu) (by rw [List.length_drop, HTT.out.1]; show ¬ 0 = _; have := HLT.out; omega)
          | node i2 l2 r2 =>
            obtain ⟨rfl, hi0, hon, hsl, hsr⟩ : i2 = i ∧ i ≠ 0 ∧ A.σ.on i = true ∧ Sub A (A.nd i).left l2 ∧ Sub A (A.nd i).right r2 := by
              cases hu with
              | node _ _ _ h1 h2 h3 h4 => exact ⟨rfl, h1, h2, h3, h4⟩
            unfold pathT at hpu
            have hPj : P[j]? = some i2 := by
              rw [← List.head?_drop, ← hpu]; rfl
            have hPd : P.drop (j + 1) = (if key = (A.nd i2).key then [] else if key < (A.nd i2).key then pathT A.nd key l2 else pathT A.nd key r2) := by
              rw [← List.tail_drop, ← hpu]; rfl
            have hi4 := HPX.out i2 (List.mem_of_getElem? hPj)
            have HON := Lib.hid hon
            have HSL := Lib.hid hsl
            have HSR := Lib.hid hsr
            have HPJ := Lib.hid hPj
            have HPD := Lib.hid hPd
            have HI4 := Lib.hid hi4
            clear hlt hu hpu hi0 hon hsl hsr hPj hPd hi4 HU HPU
            go_wp2_with fail
            refine (HS.out.node HRD.out.1 (by have := HRD.out; omega) HI4.out HON.out).mono ?_
            rintro e w11 ⟨rfl, hs11⟩
            have HS11 := Lib.hid hs11
            clear hs11 HS
            unfold ndRow
            go_upto_region 16 with fail
            have hs12 := HS11.out.box #[.int .i64 (A.nd i2).key, .int .i64 (A.nd i2).val, .int .u32 ((A.nd i2).left : Int), .int .u32 ((A.nd i2).right : Int), .int .i64 (A.nd i2).size, .int .i64 (A.nd i2).sum, .int .i64 (A.nd i2).mn, .int .i64 (A.nd i2).mx] 55
            generalize w11.alloc (Obj.cells #[.int .i64 (A.nd i2).key, .int .i64 (A.nd i2).val, .int .u32 ((A.nd i2).left : Int), .int .u32 ((A.nd i2).right : Int), .int .i64 (A.nd i2).size, .int .i64 (A.nd i2).sum, .int .i64 (A.nd i2).mn, .int .i64 (A.nd i2).mx] 55) = w12 at hs12 ⊢
            generalize w11.heap.size = gn at hs12 ⊢
            have hbx := (hs12.boxes _ (List.Mem.head _)).2
            have x0 : w12.cell? ⟨gn, 0, none⟩ = some (.int .i64 (A.nd i2).key) := by rw [cell_of_row _ _ _ _ _ _ hbx]; rfl
            have x2 : w12.cell? ⟨gn, 2, none⟩ = some (.int .u32 ((A.nd i2).left : Int)) := by rw [cell_of_row _ _ _ _ _ _ hbx]; rfl
            have x3 : w12.cell? ⟨gn, 3, none⟩ = some (.int .u32 ((A.nd i2).right : Int)) := by rw [cell_of_row _ _ _ _ _ _ hbx]; rfl
            have hrowP := hs12.rows ⟨26, 1, .slice pa1 T pc1, T, u32s P⟩ (by rw [← HRW.out]; simp)
            obtain ⟨gp, rfl, _, hcP⟩ := row_cell hrowP HLT.out
            have hcP2 : w12.cell? ⟨gp, j, none⟩ = some (.int .u32 (i2 : Int)) := by rw [hcP]; simp [u32s, HPJ.out]
            have HS12 := Lib.hid (hs12.less (rs' := rows) (bs' := []) (List.Sublist.refl _) (by simp))
            have hii : ((i2 : Int) != (i2 : Int)) = false := by simp
            clear hs12 hbx hrowP hcP HS11
            by_cases hke : key = (A.nd i2).key
            · have hkq : ((A.nd i2).key == key) = true := by simp; exact hke.symm
              have hTj : T = j + 1 := by
                have h := HPD.out
                rw [if_pos hke] at h
                have h2 := congrArg List.length h
                rw [List.length_drop, HTT.out.1] at h2
                have := HLT.out
                simp at h2
                omega
              have hjt : ((j : Int) == (T : Int) - 1) = true := by simp; omega
              have hwT : IntKind.i64.wrap ((T : Int) - 1) = (T : Int) - 1 := by rw [IntKind.wrap_i64]; omega
              clear hke hTj
              go_wp2_with fail
              go_ret
              exact ⟨rfl, HS12.out.below⟩
            · have hkq : ((A.nd i2).key == key) = false := by simp; exact fun e => hke e.symm
              have hpd := HPD.out
              rw [if_neg hke] at hpd
              by_cases hkl : key < (A.nd i2).key
              · have hkd : decide (key < (A.nd i2).key) = true := decide_eq_true hkl
                rw [if_pos hkl] at hpd
                have HEND : Hid (WayRel I w.heap.size w (.pointer (some pa)) A key P T rows (.int .u32 ((A.nd i2).left : Int)) (.int .i64 ((j : Int) + 1)) w12) := ⟨j + 1, _, l2, rd + 1, rfl, by go_num, by have := HLT.out; omega, HSL.out, hpd.symm, by have := HRD.out; omega, by have := HRD.out; omega, HS12.out⟩
                clear hke hkl hpd
                go_wp2_with fail
                exact ⟨HEND.out, by have := HLT.out; simp [intOf]; omega⟩
              · have hkd : decide (key < (A.nd i2).key) = false := decide_eq_false hkl
                rw [if_neg hkl] at hpd
                have HEND : Hid (WayRel I w.heap.size w (.pointer (some pa)) A key P T rows (.int .u32 ((A.nd i2).right : Int)) (.int .i64 ((j : Int) + 1)) w12) := ⟨j + 1, _, r2, rd + 1, rfl, by go_num, by have := HLT.out; omega, HSR.out, hpd.symm, by have := HRD.out; omega, by have := HRD.out; omega, HS12.out⟩
                clear hke hkl hpd
                go_wp2_with fail
                exact ⟨HEND.out, by have := HLT.out; simp [intOf]; omega⟩
        · have hji : ¬ (j : Int) < (T : Int) := by omega
          have hi0 : i = 0 := by
            have hd : P.drop j = [] := List.drop_of_length_le (by rw [HTT.out.1]; omega)
            rw [hd] at hpu
            cases hu with
            | nil => rfl
            | node _ _ _ _ _ _ _ => unfold pathT at hpu; cases hpu
          have hiq : ((i : Int) == 0) = true := by simp; exact hi0
          clear hlt hu hpu hi0
          go_wp2_with fail
          refine (height_kit (L : Int) wr (by omega) (by omega)).mono ?_
          rintro e w13 ⟨rfl, hb13⟩
          have HX : Hid (xhI (L : Int) = (xh L : Int)) := xhI_nat (by have := HLEN.out; omega)
          rw [HX.out]
          have hle : decide ((T : Int) ≤ (xh L : Int)) = true := decide_eq_true (by have := HTT.out; omega)
          have hle2 : decide (T ≤ xh L) = true := decide_eq_true HTT.out.2.1
          have hle3 : T ≤ xh L := HTT.out.2.1
          have HBZ := Lib.hid (HS.out.calm hb13).below
          clear hb13
          go_wp2_with fail
          go_ret
          exact ⟨rfl, HBZ.out⟩
  · have hli : ¬ (0 : Int) < (L : Int) := by omega
    have hli2 : decide ((L : Int) > 0) = false := decide_eq_false hli
    have hli3 : decide (0 < L) = false := decide_eq_false hL0
    clear hL0
    go_upto_region 7 with fail
    have HPT : Hid (∃ P, pathT A.nd key t = P) := ⟨_, rfl⟩
    go_wp2_with fail
    refine HS3.out.reads.mono ?_
    rintro e w7 ⟨rfl, hs7⟩
    have HS7 := Lib.hid hs7
    clear hs7 HS3
    go_wp2_with fail
    refine (HS7.out.path fun F hI => HK.out.path key w7 hI HTR.out (by decide) (by decide) HKEY.out).mono ?_
    rintro e w8 ⟨pa1, pc1, rd8, rfl, hs8, h80, h81⟩
    rw [HML.out] at h81
    have hptl := pathT_ht A.nd key t
    have hth := HTR.out.ht (by rw [HLL.out]; have := HLEN.out; omega)
    rw [HLL.out] at hth
    obtain ⟨P, hP⟩ : ∃ P, pathT A.nd key t = P := ⟨_, rfl⟩
    rw [hP] at hs8 hptl ⊢
    obtain ⟨T, hT⟩ : ∃ T, P.length = T := ⟨_, rfl⟩
    rw [hT] at hs8 hptl ⊢
    have h80' := (xh_spec (n := L) (by have := HLEN.out; omega)).2.1
    have HPP := Lib.hid hP
    have HTT : Hid (P.length = T ∧ T ≤ xh L ∧ xh L < 80) := ⟨hT, by omega, h80'⟩
    have hTi : (T : Int) ≤ 80 := by have := HTT.out; omega
    obtain ⟨rows, hrw⟩ : ∃ x, ([⟨26, 1, .slice pa1 T pc1, T, u32s P⟩, ⟨37, 2, .slice a1 L c1, L, ensV l⟩] : List Row) = x := ⟨_, rfl⟩
    rw [hrw] at hs8
    have HRW := Lib.hid hrw
    have HS8 := Lib.hid hs8
    have HR8 : Hid (0 ≤ rd8 ∧ rd8 ≤ mostI L) := ⟨h80, by omega⟩
    have HPX : Hid (∀ y ∈ P, y < 4294967296) := fun y hy => by
      rw [← HPP.out] at hy
      exact path_lt HTR.out key hy
    clear hrw hs8 h80 h81 hptl hth hP hT h80' HS7 HPT
    go_wp2_with fail
    refine (most_any L _ (by have := HLEN.out; omega)).mono ?_
    rintro e w9 ⟨rfl, hb9⟩
    have HS9 := Lib.hid (HS8.out.calm hb9)
    clear hb9 HS8
    obtain ⟨M, hM⟩ : ∃ M, mostI L = M := ⟨_, rfl⟩
    rw [hM]
    have HMM := Lib.hid hM
    clear hM
    go_wp2_with fail
    refine (within_any (since := 0) HS9.out.mr (by decide) HR8.out.1 (by rw [← HMM.out]; have := HR8.out; omega) (by have := HR8.out; have := HMOST.out; omega) (by rw [← HMM.out]; have := HMOST.out; omega)).mono ?_
    rintro e w10 ⟨rfl, hb10⟩
    have hs10 := HS9.out.calm hb10
    have HR0 : Hid (WayRel I w.heap.size w (.pointer (some pa)) A key P T rows (.int .u32 (ri : Int)) (.int .i64 0) w10) := ⟨0, ri, t, rd8, rfl, rfl, Nat.zero_le _, HTR.out.sub, HPP.out, HR8.out.1, by have := HR8.out; have := HMOST.out; omega, hs10⟩
    have HOK : Hid (∃ held, A.Inv [] held) := HTR.out.inv
    clear hb10 hs10 HS9
    go_wp2_with fail
    go_loopw [15, 16] (fun x k wr => WayRel I w.heap.size w (.pointer (some pa)) A key P T rows x k wr) (fun _ k _ => T - (intOf k).toNat)
    case atStart => exact HR0.out
    case round =>
      clear HR0
      obtain ⟨j, i, u, rd, rfl, rfl, hj, hu, hpu, hrd0, hrd1, hS⟩ := hrel
      have HS := Lib.hid hS
      have HU := Lib.hid hu
      have HPU := Lib.hid hpu
      have HRD : Hid (0 ≤ rd ∧ rd ≤ 1000000 + (j : Int) ∧ j ≤ T) := ⟨hrd0, hrd1, hj⟩
      have hj0 : (0 : Int) ≤ (j : Int) := by omega
      clear hS hrd0 hrd1 hj
      by_cases hlt : j < T
      · have hji : (j : Int) < (T : Int) := by omega
        have HLT := Lib.hid hlt
        cases u with
        | nil => exact absurd (congrArg List.length hpu) (by rw [List.length_drop, HTT.out.1]; show ¬ 0 = _; have := HLT.out; omega)
        | node i2 l2 r2 =>
          obtain ⟨rfl, hi0, hon, hsl, hsr⟩ : i2 = i ∧ i ≠ 0 ∧ A.σ.on i = true ∧ Sub A (A.nd i).left l2 ∧ Sub A (A.nd i).right r2 := by
            cases hu with
            | node _ _ _ h1 h2 h3 h4 => exact ⟨rfl, h1, h2, h3, h4⟩
          unfold pathT at hpu
          have hPj : P[j]? = some i2 := by
            rw [← List.head?_drop, ← hpu]; rfl
          have hPd : P.drop (j + 1) = (if key = (A.nd i2).key then [] else if key < (A.nd i2).key then pathT A.nd key l2 else pathT A.nd key r2) := by
            rw [← List.tail_drop, ← hpu]; rfl
          have hi4 := HPX.out i2 (List.mem_of_getElem? hPj)
          have HON := Lib.hid hon
          have HSL := Lib.hid hsl
          have HSR := Lib.hid hsr
          have HPJ := Lib.hid hPj
          have HPD := Lib.hid hPd
          have HI4 := Lib.hid hi4
          clear hlt hu hpu hi0 hon hsl hsr hPj hPd hi4 HU HPU
          go_wp2_with fail
          refine (HS.out.node HRD.out.1 (by have := HRD.out; omega) HI4.out HON.out).mono ?_
          rintro e w11 ⟨rfl, hs11⟩
          have HS11 := Lib.hid hs11
          clear hs11 HS
          unfold ndRow
          go_upto_region 16 with fail
          have hs12 := HS11.out.box #[.int .i64 (A.nd i2).key, .int .i64 (A.nd i2).val, .int .u32 ((A.nd i2).left : Int), .int .u32 ((A.nd i2).right : Int), .int .i64 (A.nd i2).size, .int .i64 (A.nd i2).sum, .int .i64 (A.nd i2).mn, .int .i64 (A.nd i2).mx] 55
          generalize w11.alloc (Obj.cells #[.int .i64 (A.nd i2).key, .int .i64 (A.nd i2).val, .int .u32 ((A.nd i2).left : Int), .int .u32 ((A.nd i2).right : Int), .int .i64 (A.nd i2).size, .int .i64 (A.nd i2).sum, .int .i64 (A.nd i2).mn, .int .i64 (A.nd i2).mx] 55) = w12 at hs12 ⊢
          generalize w11.heap.size = gn at hs12 ⊢
          have hbx := (hs12.boxes _ (List.Mem.head _)).2
          have x0 : w12.cell? ⟨gn, 0, none⟩ = some (.int .i64 (A.nd i2).key) := by rw [cell_of_row _ _ _ _ _ _ hbx]; rfl
          have x2 : w12.cell? ⟨gn, 2, none⟩ = some (.int .u32 ((A.nd i2).left : Int)) := by rw [cell_of_row _ _ _ _ _ _ hbx]; rfl
          have x3 : w12.cell? ⟨gn, 3, none⟩ = some (.int .u32 ((A.nd i2).right : Int)) := by rw [cell_of_row _ _ _ _ _ _ hbx]; rfl
          have hrowP := hs12.rows ⟨26, 1, .slice pa1 T pc1, T, u32s P⟩ (by rw [← HRW.out]; simp)
          obtain ⟨gp, rfl, _, hcP⟩ := row_cell hrowP HLT.out
          have hcP2 : w12.cell? ⟨gp, j, none⟩ = some (.int .u32 (i2 : Int)) := by rw [hcP]; simp [u32s, HPJ.out]
          have HS12 := Lib.hid (hs12.less (rs' := rows) (bs' := []) (List.Sublist.refl _) (by simp))
          have hii : ((i2 : Int) != (i2 : Int)) = false := by simp
          clear hs12 hbx hrowP hcP HS11
          by_cases hke : key = (A.nd i2).key
          · have hkq : ((A.nd i2).key == key) = true := by simp; exact hke.symm
            have hTj : T = j + 1 := by
              have h := HPD.out
              rw [if_pos hke] at h
              have h2 := congrArg List.length h
              rw [List.length_drop, HTT.out.1] at h2
              have := HLT.out
              simp at h2
              omega
            have hjt : ((j : Int) == (T : Int) - 1) = true := by simp; omega
            have hwT : IntKind.i64.wrap ((T : Int) - 1) = (T : Int) - 1 := by rw [IntKind.wrap_i64]; omega
            clear hke hTj
            go_wp2_with fail
            go_ret
            exact ⟨rfl, HS12.out.below⟩
          · have hkq : ((A.nd i2).key == key) = false := by simp; exact fun e => hke e.symm
            have hpd := HPD.out
            rw [if_neg hke] at hpd
            by_cases hkl : key < (A.nd i2).key
            · have hkd : decide (key < (A.nd i2).key) = true := decide_eq_true hkl
              rw [if_pos hkl] at hpd
              have HEND : Hid (WayRel I w.heap.size w (.pointer (some pa)) A key P T rows (.int .u32 ((A.nd i2).left : Int)) (.int .i64 ((j : Int) + 1)) w12) := ⟨j + 1, _, l2, rd + 1, rfl, by go_num, by have := HLT.out; omega, HSL.out, hpd.symm, by have := HRD.out; omega, by have := HRD.out; omega, HS12.out⟩
              clear hke hkl hpd
              go_wp2_with fail
              exact ⟨HEND.out, by have := HLT.out; simp [intOf]; omega⟩
            · have hkd : decide (key < (A.nd i2).key) = false := decide_eq_false hkl
              rw [if_neg hkl] at hpd
              have HEND : Hid (WayRel I w.heap.size w (.pointer (some pa)) A key P T rows (.int .u32 ((A.nd i2).right : Int)) (.int .i64 ((j : Int) + 1)) w12) := ⟨j + 1, _, r2, rd + 1, rfl, by go_num, by have := HLT.out; omega, HSR.out, hpd.symm, by have := HRD.out; omega, by have := HRD.out; omega, HS12.out⟩
              clear hke hkl hpd
              go_wp2_with fail
              exact ⟨HEND.out, by have := HLT.out; simp [intOf]; omega⟩
      · have hji : ¬ (j : Int) < (T : Int) := by omega
        have hi0 : i = 0 := by
          have hd : P.drop j = [] := List.drop_of_length_le (by rw [HTT.out.1]; omega)
          rw [hd] at hpu
          cases hu with
          | nil => rfl
          | node _ _ _ _ _ _ _ => unfold pathT at hpu; cases hpu
        have hiq : ((i : Int) == 0) = true := by simp; exact hi0
        clear hlt hu hpu hi0
        go_wp2_with fail
        refine (height_kit (L : Int) wr (by omega) (by omega)).mono ?_
        rintro e w13 ⟨rfl, hb13⟩
        have HX : Hid (xhI (L : Int) = (xh L : Int)) := xhI_nat (by have := HLEN.out; omega)
        rw [HX.out]
        have hle : decide ((T : Int) ≤ (xh L : Int)) = true := decide_eq_true (by have := HTT.out; omega)
        have hle2 : decide (T ≤ xh L) = true := decide_eq_true HTT.out.2.1
        have hle3 : T ≤ xh L := HTT.out.2.1
        have HBZ := Lib.hid (HS.out.calm hb13).below
        clear hb13
        go_wp2_with fail
        go_ret
        exact ⟨rfl, HBZ.out⟩
end Go.Proofs.Ytigogohcelgggaa
