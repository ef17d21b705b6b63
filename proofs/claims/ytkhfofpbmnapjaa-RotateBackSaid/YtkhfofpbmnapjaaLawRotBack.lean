/- RotateBack over contracts. -/
import Derived.Test.YtkhfofpbmnapjaaRotOrd
import Derived.Test.YtkhfofpbmnapjaaBox8
import Derived.Deep.RegionHeld3
import Derived.Deep.QuietTactic
import Derived.Deep.DeepCutAuto
set_option linter.unusedVariables false
set_option linter.unusedSimpArgs false
namespace Go.Proofs.Ytkhfofpbmnapjaa
open Go.RowKit
theorem nz_on {C : Ar} {i : Nat} (h : C.σ.on i = true) : C.nz i = C.nd i := by unfold Ar.nz; rw [h]; rfl
theorem nd_same {C : Ar} (hg : C.Agg) {a b : Nat} (ha : C.σ.on a = true) (hb : C.σ.on b = true) (h1 : (C.nd a).key = (C.nd b).key) (h2 : (C.nd a).val = (C.nd b).val) (h3 : (C.nd a).left = (C.nd b).left) (h4 : (C.nd a).right = (C.nd b).right) : C.nd a = C.nd b := by
  refine (hg.node a ha).trans ?_
  rw [h1, h2, h3, h4]
  exact (hg.node b hb).symm
theorem isB_true {x e : Nd} {l r : Nat} (h : isNd x e l r) : isB x e l r = true := by
  obtain ⟨h1, h2, h3, h4⟩ := h
  unfold isB
  simp [h1, h2, h3, h4]
theorem on_lt {C : Ar} {held : Nat → Nat} (hC : C.Inv [] held) {x : Nat} (h : C.σ.on x = true) : x < 4294967296 := by
  have h1 := hC.ok.on x h
  have h2 := hC.ok.cap2
  omega
theorem idx_lt {C : Ar} {held : Nat → Nat} (hC : C.Inv [] held) {x : Nat} (h : x = 0 ∨ C.σ.on x = true) : x < 4294967296 := by
  rcases h with h | h
  · omega
  · exact on_lt hC h
theorem rot_back {A B C : Ar} {held : Nat → Nat} {k i j m : Nat} (hk : k ≤ 1) (hA : A.Inv [] held) (hg : A.Agg) (ht : Turned A held B j 2) (hn : RNodes A B k i j) (hf : rform A k i = true) (ht2 : Turned B (more held j) C m 2) (hn2 : RNodes B C (1 - k) j m) :
    if k = 1 then isB (C.nz m) (C.nz i) (C.nz m).left (C.nz i).right = true ∧ C.nz (C.nz m).left = C.nz (C.nz i).left ∧ (C.nz m).left < 4294967296 ∧ (C.nz i).left < 4294967296
    else isB (C.nz m) (C.nz i) (C.nz i).left (C.nz m).right = true ∧ C.nz (C.nz m).right = C.nz (C.nz i).right ∧ (C.nz m).right < 4294967296 ∧ (C.nz i).right < 4294967296 := by
  have hon := rform_on hf
  have hBi := ht.kept.on i hon
  have hCi := ht2.kept.on i hBi
  have eBi := ht.kept.nd i hon
  have eCi : C.nd i = A.nd i := (ht2.kept.nd i hBi).trans eBi
  have hi0 : i ≠ 0 := by have := hA.ok.on i hon; omega
  have hk2 : k = 0 ∨ k = 1 := by omega
  rcases hk2 with rfl | rfl
  · rw [if_neg (by decide)]
    have hr0 : (A.nd i).right ≠ 0 := by unfold rform at hf; rw [hon] at hf; simpa using hf
    have hr := (hA.child i hon).2.resolve_left hr0
    have hrB := ht.kept.on _ hr
    have hrC := ht2.kept.on _ hrB
    have erC : C.nd (A.nd i).right = A.nd (A.nd i).right := (ht2.kept.nd _ hrB).trans (ht.kept.nd _ hr)
    obtain ⟨z, n1, n2, ⟨a1, a2, a3, a4⟩, ⟨b1, b2, b3, b4⟩⟩ := hn
    obtain ⟨y, m1, m2, ⟨c1, c2, c3, c4⟩, ⟨d1, d2, d3, d4⟩⟩ := hn2
    rw [a3] at c1 c2 c3 d3
    rw [nz_on m1.1, nz_on hCi, eCi, c4, nz_on m2.1, nz_on hrC]
    refine ⟨isB_true ⟨by rw [c1, b1], by rw [c2, b2], by rw [c3, b3], c4⟩, nd_same ht2.agg m2.1 hrC ?_ ?_ ?_ ?_, on_lt ht2.inv m2.1, on_lt ht2.inv hrC⟩
    · rw [d1, a1, erC]
    · rw [d2, a2, erC]
    · rw [d3, b4, erC]
    · rw [d4, a4, erC]
  · rw [if_pos rfl]
    have hr0 : (A.nd i).left ≠ 0 := by unfold rform at hf; rw [hon] at hf; simpa using hf
    have hr := (hA.child i hon).1.resolve_left hr0
    have hrB := ht.kept.on _ hr
    have hrC := ht2.kept.on _ hrB
    have erC : C.nd (A.nd i).left = A.nd (A.nd i).left := (ht2.kept.nd _ hrB).trans (ht.kept.nd _ hr)
    obtain ⟨z, n1, n2, ⟨a1, a2, a3, a4⟩, ⟨b1, b2, b3, b4⟩⟩ := hn
    obtain ⟨y, m1, m2, ⟨c1, c2, c3, c4⟩, ⟨d1, d2, d3, d4⟩⟩ := hn2
    rw [a4] at c1 c2 c4 d4
    rw [nz_on m1.1, nz_on hCi, eCi, c3, nz_on m2.1, nz_on hrC]
    refine ⟨isB_true ⟨by rw [c1, b1], by rw [c2, b2], c3, by rw [c4, b4]⟩, nd_same ht2.agg m2.1 hrC ?_ ?_ ?_ ?_, on_lt ht2.inv m2.1, on_lt ht2.inv hrC⟩
    · rw [d1, a1, erC]
    · rw [d2, a2, erC]
    · rw [d3, a3, erC]
    · rw [d4, b3, erC]
theorem rform_back {A B : Ar} {held : Nat → Nat} {k i j : Nat} (hk : k ≤ 1) (hB : B.Inv [] held) (hn : RNodes A B k i j) : rform B (1 - k) j = true := by
  have hk2 : k = 0 ∨ k = 1 := by omega
  rcases hk2 with rfl | rfl
  · obtain ⟨z, n1, n2, n3, n4⟩ := hn
    show (B.σ.on j && (B.nd j).left != 0) = true
    rw [n1.1, n3.2.2.1]
    simpa using n2.ne hB
  · obtain ⟨z, n1, n2, n3, n4⟩ := hn
    show (B.σ.on j && (B.nd j).right != 0) = true
    rw [n1.1, n3.2.2.2]
    simpa using n2.ne hB
theorem rnodes_on {A B : Ar} {k i j : Nat} (hk : k ≤ 3) (hn : RNodes A B k i j) : B.σ.on j = true := by
  have hk4 : k = 0 ∨ k = 1 ∨ k = 2 ∨ k = 3 := by omega
  rcases hk4 with rfl | rfl | rfl | rfl
  · exact hn.elim fun z h => h.1.1
  · exact hn.elim fun z h => h.1.1
  · exact hn.elim fun y h => h.elim fun z h => h.2.1.1
  · exact hn.elim fun y h => h.elim fun z h => h.2.1.1
set_option maxHeartbeats 8000000 in
set_option maxRecDepth 100000 in
theorem rotback_walk (I : AImpl) (hchk : CheckSpec) (K : RotImpl I) {a : Option Addr} {n c : Nat} {raw : List En} {tilt : Int} {right : Bool} {w : World} (hE : EnsAt w a raw) (hn : raw.length = n) (hnm : n ≤ 9223372036854775807) (ht0 : 0 ≤ tilt) (ht1 : tilt < 18446744073709551616)  :
    Calls Try.prog 6 #[.slice a n c, .int .u64 tilt, .bool right] w (Calm w (.bool true)) := by
  have HK := Lib.hid K
  clear K hchk
  have HWF : Hid (∀ y ∈ listE raw 60, i64R y.key ∧ i64R y.val) := fun y hy => hE.wf y (listE_mem hy)
  have HL := Lib.hid (list_any (c := c) (k := 60) hE hn hnm (by decide))
  have HT : Hid (0 ≤ tilt ∧ tilt < 18446744073709551616) := ⟨ht0, ht1⟩
  have HUP := Lib.hid (listE_up raw 60)
  have HLEN := Lib.hid (listE_len raw 60)
  clear hE hn hnm ht0 ht1
  go_enter Try.func6, Try.ntmps6
  go_wp2_with fail
  refine HL.out.mono ?_
  rintro e w1 ⟨a1, c1, rfl, hr1, hb1⟩
  have HR1 := Lib.hid hr1
  have HB1 := Lib.hid hb1
  clear hr1 hb1 HL
  generalize listE raw 60 = l at HUP HLEN HR1 HWF ⊢
  obtain ⟨L, hL⟩ : ∃ L, l.length = L := ⟨_, rfl⟩
  rw [hL] at HLEN HR1 ⊢
  have HLL := Lib.hid hL
  have hLi : (L : Int) ≤ 60 := by have := HLEN.out; omega
  have HE1 := Lib.hid (ens_row hL HR1.out HWF.out)
  have HC1 := Lib.hid (row_caps HR1.out)
  clear hL
  go_wp2_with fail
  refine (grow_any I (sp := 4) (m := L + 4) HE1.out HLL.out HC1.out.1 HC1.out.2 rfl (by omega) (by have := HLEN.out; omega) HT.out.1 HT.out.2).mono ?_
  rintro e w2 ⟨p, A, ri, t, F, rfl, hg⟩
  obtain ⟨pa, rfl⟩ := I.ptr hg.is
  have HTR := Lib.hid (hg.planted.tree HUP.out)
  have HPL := Lib.hid hg.planted
  have HS2 := Lib.hid (Scn.init hg HB1.out HR1.out)
  clear hg HR1 HE1 HC1 HT
  go_wp2_with fail
  refine (awake12_any I HK.out w2).mono ?_
  rintro e w3 ⟨rfl, hb3⟩
  have HS3 := Lib.hid (HS2.out.calm hb3)
  clear hb3 HS2
  have HRI : Hid (ri < 4294967296) := HTR.out.idx
  have HHM : Hid (∀ j, pls (fun _ => 0) ri j ≤ 1048000) := fun j => by rw [pls_at]; split <;> omega
  have HFR : Hid (A.σ.free.length = 4) := by have h := HPL.out.free; rw [HLL.out] at h; have h2 : (Ar.init (L + 4)).σ.free.length = L + 4 := by show (List.range' 1 (L + 4)).length = _; simp
                                             show _ = _; omega
  obtain ⟨k, hk, hk1⟩ : ∃ k : Nat, k ≤ 1 ∧ (k = if right then 1 else 0) := ⟨if right then 1 else 0, by cases right <;> decide, rfl⟩
  have HK1 := Lib.hid hk
  have HKR := Lib.hid hk1
  have w1 : IntKind.i64.wrap (1 - (k : Int)) = ((1 - k : Nat) : Int) := by rw [IntKind.wrap_i64]; omega
  go_upto_if 34 with fail
  go_cut [11] from 35 to 100 (fun s11 wx => s11 = .int .i64 (k : Int) ∧ wx = w3)
  case first =>
    cases right
    · go_wp2_with fail
      go_meet
      exact ⟨by rw [hk1]; rfl, rfl⟩
    · go_wp2_with fail
      go_meet
      exact ⟨by rw [hk1]; rfl, rfl⟩
  case' rest =>
    obtain ⟨rfl, rfl⟩ := hcut
    clear hk hk1
    go_wp2_with fail
    refine (HS3.out.mut fun F hI => (call12_res I HK.out _ hI HPL.out.inv HPL.out.agg (HPL.out.wf HUP.out HWF.out) HHM.out (by decide) (by decide) HRI.out (by have := HK1.out; omega)).mono fun e w' h => h.mut).mono ?_
    rintro e w4 ⟨A4, rd4, ⟨hr0, hr1, hq⟩, hs4⟩
    have HS4 := Lib.hid hs4
    have HRD4 : Hid (0 ≤ rd4 ∧ rd4 ≤ 64) := ⟨hr0, by omega⟩
    clear hs4 HS3 hr0 hr1
    rcases hq with ⟨q1, rfl, rfl⟩ | ⟨q1, q2, -⟩ | ⟨q1, q2, j, ht, hn, rfl⟩
    rotate_left
    · exact absurd q2 (by rw [HFR.out]; unfold rneed; split <;> omega)
    · have HTU := Lib.hid ht
      have hback := rform_back HK1.out ht.inv hn
      have HBK := Lib.hid hback
      have HRN := Lib.hid hn
      have HQ1 := Lib.hid q1
      have HR2 : Hid (rneed k = 2 ∧ rneed (1 - k) = 2) := by have := HK1.out; constructor <;> (unfold rneed; rw [if_pos (by omega)])
      have HJI : Hid (j < 4294967296) := by have h1 := ht.inv.ok.on j (rform_on hback); have h2 := ht.inv.ok.cap2; show _ < _; omega
      clear q1 q2 hn ht hback
      go_wp2_with fail
      refine (HS4.out.mut fun F hI => (call12_res I HK.out w4 hI HTU.out.inv HTU.out.agg HTU.out.wf (fun x => Nat.le_trans (more_small (m := 1) (fun y => by rw [pls_at]; split <;> omega) j x) (by decide)) HRD4.out.1 (by have := HRD4.out; omega) HJI.out (k := 1 - k) (by have := HK1.out; omega)).mono fun e w' h => h.mut).mono ?_
      rintro e w5 ⟨C, rd5, ⟨hr0, hr1, hq⟩, hs5⟩
      have HS5 := Lib.hid hs5
      clear hs5 HS4 hr0 hr1
      rcases hq with ⟨q1, -⟩ | ⟨q1, q2, -⟩ | ⟨q1, q2, m, ht2, hn2, rfl⟩
      · rw [HBK.out] at q1; cases q1
      · exact absurd q2 (by have h1 := HTU.out.free; rw [HFR.out, HR2.out.1] at h1; rw [HR2.out.2]; omega)
      have ht := HTU.out
      rw [HR2.out.1] at ht
      rw [HR2.out.2] at ht2
      have HBACK := Lib.hid (rot_back HK1.out HPL.out.inv HPL.out.agg ht HRN.out HQ1.out ht2 hn2)
      have HCI : Hid (C.Inv [] (more (more (pls (fun _ => 0) ri) j) m)) := ht2.inv
      have HMI : Hid (m < 4294967296) := by have h1 := ht2.inv.ok.on m (rnodes_on (by have := HK1.out; omega) hn2); have h2 := ht2.inv.ok.cap2; show _ < _; omega
      clear q1 q2 ht ht2 hn2
      go_wp2_with fail
      refine HS5.out.dump.mono ?_
      rintro e w6 ⟨da, dc, db, dd, rfl, hs6, hb6⟩
      have HSL := Lib.hid (hs6.dumped HCI.out rfl)
      have hs7 := hs6.box #[.slice da C.σ.cap dc, .slice db C.σ.free.length dd] 32
      clear hs6 hb6 HS5
      go_upto_region 15 with fail
      have HSL7 := HSL.out.below (below_newL w6 (.cells #[.slice da C.σ.cap dc, .slice db C.σ.free.length dd] 32))
      generalize w6.alloc (Obj.cells #[.slice da C.σ.cap dc, .slice db C.σ.free.length dd] 32) = w7 at hs7 HSL7 ⊢
      generalize w6.heap.size = q at hs7 ⊢
      generalize (⟨28, 1, .slice db C.σ.free.length dd, C.σ.free.length, u32s C.σ.free⟩ : Row) :: _ = rs at hs7
      obtain ⟨N, hN⟩ : ∃ N, C.σ.cap = N := ⟨_, rfl⟩
      obtain ⟨M, hM⟩ : ∃ M, C.σ.free.length = M := ⟨_, rfl⟩
      rw [hN, hM] at hs7
      rw [hN] at HSL7
      rw [hN, hM]
      have HN := Lib.hid hN
      have HAT : Hid (∀ wx, Below w7.heap.size w7 wx → ∀ x : Nat, x < 4294967296 → Calls Try.prog 14 #[.agg #[.slice da N dc, .slice db M dd], .int .u32 (x : Int)] wx (Calm wx (.agg (ndRow (C.nz x))))) := fun wx hx x h => at12_any (HSL7.below hx) HCI.out.ok HN.out h
      have HBX := Lib.hid (hs7.boxes (q, Obj.cells #[.slice da N dc, .slice db M dd] 32 (0, 0)) (by simp))
      have HS7 := Lib.hid hs7
      clear hN hM HSL7 hs7 HSL
      obtain ⟨q0, q1⟩ := two_cells HBX.out.2
      have HNX : Hid (∀ wx wy, Below w7.heap.size w7 wx → Below wx.heap.size wx wy → Below w7.heap.size w7 wy) := fun wx wy h1 h2 => h1.trans (h2.mono h1.size)
      have HAL : Hid (∀ wx o, Below w7.heap.size w7 wx → Below w7.heap.size w7 (wx.alloc o)) := fun wx o h1 => HNX.out _ _ h1 (below_newL wx o)
      have HQL : Hid (q < w7.heap.size) := (Array.getElem?_eq_some_iff.1 HBX.out.2).1
      have HXX : Hid (∀ wx, Below w7.heap.size w7 wx → wx.cell? ⟨q, 0, none⟩ = some (.slice da N dc) ∧ wx.cell? ⟨q, 1, none⟩ = some (.slice db M dd)) := fun wx hb => two_cells ((hb.block q HQL.out).trans HBX.out.2)
      go_cut [17, 18] (fun s17 s18 wx => ∃ gx gy : Nat, s17 = .pointer (some ⟨gx, 0, none⟩) ∧ s18 = .pointer (some ⟨gy, 0, none⟩) ∧ BX w7 wx [(gy, C.nz m), (gx, C.nz ri)])
      case first =>
        have hp0 : BX w7 w7.drew [] := (BX.refl w7).drew
        have hp1 := (BX.refl w7).alloc0.drew
        have hp2 := (BX.refl w7).alloc0.alloc0.drew
        try simp only [sz_al] at hp2
        go_region_held3 (fun w' => w'.cell? ⟨q, 0, none⟩ = some (.slice da N dc) ∧ w'.cell? ⟨q, 1, none⟩ = some (.slice db M dd)) (go_keep) (first
          | (go_at_call_of 14 (Value.int .u32 (ri : Int)); refine (HAT.out _ (BX.below (by assumption)) ri HRI.out).mono ?_; rintro e wA ⟨rfl, hbA⟩; unfold ndRow; have hA := BX.calm (by assumption) hbA; obtain ⟨c0, c1⟩ := HXX.out _ hA.below; obtain ⟨oa1, oa2, oa3, oa4, oa5, oa6⟩ := hA.old HQL.out; have hA1 := hA.alloc0; have hA2 := hA1.alloc0; (try simp only [sz_al] at hA2); clear hbA)
          | (go_at_call_of 14 (Value.int .u32 (m : Int)); refine (HAT.out _ (BX.below (by assumption)) m HMI.out).mono ?_; rintro e wB ⟨rfl, hbB⟩; unfold ndRow; have hB := BX.calm (by assumption) hbB; obtain ⟨d0, d1⟩ := HXX.out _ hB.below; obtain ⟨ob1, ob2, ob3, ob4, ob5, ob6⟩ := hB.old HQL.out; (try (obtain ⟨⟨⟨x0, x1, x2, x3, x4, x5, x6, x7⟩, ⟨f0, f1, f2, f3, f4, f5, f6, f7⟩⟩, s1, s2, s3, s4, s5, s6, s7, s8⟩ := hB.b1 HQL.out)); (try (obtain ⟨⟨⟨⟨y0, y1, y2, y3, y4, y5, y6, y7⟩, ⟨g0, g1, g2, g3, g4, g5, g6, g7⟩⟩, u1, u2, u3, u4, u5, u6, u7, u8⟩, v1, v2⟩ := hB.b2 HQL.out)); (try simp only [sz_al] at *); clear hbB))
        all_goals (go_wp2_with fail; go_meet; refine ⟨_, _, rfl, rfl, ?_⟩; first
          | with_reducible exact bx12 hB
          | with_reducible exact bx21 hB
          | with_reducible exact bx3 hB
          | with_reducible exact bx4 hB
          | with_reducible exact bx5 hB
          | with_reducible exact bx6 hB)
      case' rest =>
        rename World => w9
        obtain ⟨gx, gy, rfl, rfl, hBX⟩ := hcut
        have HW : Hid (∀ wx, Below w7.heap.size w7 wx → Below w.heap.size w wx) := fun wx h => HS7.out.below.trans (h.mono HS7.out.mr.hB)
        obtain ⟨X, hX⟩ : ∃ X, C.nz ri = X := ⟨_, rfl⟩
        obtain ⟨Y, hY⟩ : ∃ Y, C.nz m = Y := ⟨_, rfl⟩
        rw [hX, hY] at hBX HBACK
        have HBX9 := Lib.hid hBX
        clear hX hY q0 q1
        cases right
        · have hk0 : k = 0 := HKR.out
          subst hk0
          have hbk := HBACK.out
          rw [if_neg (by decide)] at hbk
          obtain ⟨k1, k2, k3, k4⟩ := hbk
          have HIS := Lib.hid k1
          have HNE := Lib.hid k2
          have HLT : Hid (Y.right < 4294967296 ∧ X.right < 4294967296) := ⟨k3, k4⟩
          clear k1 k2 k3 k4
          have hb0 : BX w7 w9.drew [(gy, Y), (gx, X)] := hBX.drew
          clear hBX
          obtain ⟨P, hP⟩ : ∃ P, C.nz X.right = P := ⟨_, rfl⟩
          rw [hP] at HNE
          have HP := Lib.hid hP
          clear hP
          have e0 : ((P.key) == (P.key)) = true := by simp
          have n0 : ((P.key) != (P.key)) = false := by simp
          have e1 : ((P.val) == (P.val)) = true := by simp
          have n1 : ((P.val) != (P.val)) = false := by simp
          have e2 : (((P.left : Int)) == ((P.left : Int))) = true := by simp
          have n2 : (((P.left : Int)) != ((P.left : Int))) = false := by simp
          have e3 : (((P.right : Int)) == ((P.right : Int))) = true := by simp
          have n3 : (((P.right : Int)) != ((P.right : Int))) = false := by simp
          have e4 : ((P.size) == (P.size)) = true := by simp
          have n4 : ((P.size) != (P.size)) = false := by simp
          have e5 : ((P.sum) == (P.sum)) = true := by simp
          have n5 : ((P.sum) != (P.sum)) = false := by simp
          have e6 : ((P.mn) == (P.mn)) = true := by simp
          have n6 : ((P.mn) != (P.mn)) = false := by simp
          have e7 : ((P.mx) == (P.mx)) = true := by simp
          have n7 : ((P.mx) != (P.mx)) = false := by simp
          go_wp2_with fail
          obtain ⟨⟨x0, x1, x2, x3, x4, x5, x6, x7⟩, -⟩ := row8_of (hb0.at_ (gx, X) (by simp)).2; obtain ⟨⟨y0, y1, y2, y3, y4, y5, y6, y7⟩, -⟩ := row8_of (hb0.at_ (gy, Y) (by simp)).2; obtain ⟨c0, c1⟩ := HXX.out _ hb0.below
          go_region_held3 (fun w' => w'.cell? ⟨q, 0, none⟩ = some (.slice da N dc) ∧ w'.cell? ⟨q, 1, none⟩ = some (.slice db M dd) ∧ w'.cell? ⟨gx, 0, none⟩ = some (.int .i64 X.key) ∧ w'.cell? ⟨gx, 1, none⟩ = some (.int .i64 X.val) ∧ w'.cell? ⟨gx, 2, none⟩ = some (.int .u32 (X.left : Int)) ∧ w'.cell? ⟨gx, 3, none⟩ = some (.int .u32 (X.right : Int)) ∧ w'.cell? ⟨gx, 4, none⟩ = some (.int .i64 X.size) ∧ w'.cell? ⟨gx, 5, none⟩ = some (.int .i64 X.sum) ∧ w'.cell? ⟨gx, 6, none⟩ = some (.int .i64 X.mn) ∧ w'.cell? ⟨gx, 7, none⟩ = some (.int .i64 X.mx) ∧ w'.cell? ⟨gy, 0, none⟩ = some (.int .i64 Y.key) ∧ w'.cell? ⟨gy, 1, none⟩ = some (.int .i64 Y.val) ∧ w'.cell? ⟨gy, 2, none⟩ = some (.int .u32 (Y.left : Int)) ∧ w'.cell? ⟨gy, 3, none⟩ = some (.int .u32 (Y.right : Int)) ∧ w'.cell? ⟨gy, 4, none⟩ = some (.int .i64 Y.size) ∧ w'.cell? ⟨gy, 5, none⟩ = some (.int .i64 Y.sum) ∧ w'.cell? ⟨gy, 6, none⟩ = some (.int .i64 Y.mn) ∧ w'.cell? ⟨gy, 7, none⟩ = some (.int .i64 Y.mx)) (go_keep) (first
            | (go_at_call 15; refine (is12_any Y X X.left Y.right _).mono ?_; rintro e wi ⟨rfl, hbi⟩; rw [HIS.out]; have hI := BX.calm (by assumption) hbi; clear hbi; obtain ⟨⟨x0, x1, x2, x3, x4, x5, x6, x7⟩, -⟩ := row8_of (hI.at_ (gx, X) (by simp)).2; obtain ⟨⟨y0, y1, y2, y3, y4, y5, y6, y7⟩, -⟩ := row8_of (hI.at_ (gy, Y) (by simp)).2; obtain ⟨c0, c1⟩ := HXX.out _ hI.below)
            | (go_at_call_of 14 (Value.int .u32 (Y.right : Int)); refine (HAT.out _ (BX.below (by assumption)) Y.right HLT.out.1).mono ?_; rintro e wy ⟨rfl, hby⟩; rw [HNE.out]; unfold ndRow; have hY := BX.calm (by assumption) hby; clear hby; obtain ⟨⟨x0, x1, x2, x3, x4, x5, x6, x7⟩, -⟩ := row8_of (hY.at_ (gx, X) (by simp)).2; obtain ⟨⟨y0, y1, y2, y3, y4, y5, y6, y7⟩, -⟩ := row8_of (hY.at_ (gy, Y) (by simp)).2; obtain ⟨c0, c1⟩ := HXX.out _ hY.below)
            | (go_at_call_of 14 (Value.int .u32 (X.right : Int)); refine (HAT.out _ (BX.below (by assumption)) X.right HLT.out.2).mono ?_; rintro e wx ⟨rfl, hbx⟩; rw [HP.out]; unfold ndRow; have hX := BX.calm (by assumption) hbx; clear hbx; obtain ⟨⟨x0, x1, x2, x3, x4, x5, x6, x7⟩, -⟩ := row8_of (hX.at_ (gx, X) (by simp)).2; obtain ⟨⟨y0, y1, y2, y3, y4, y5, y6, y7⟩, -⟩ := row8_of (hX.at_ (gy, Y) (by simp)).2; obtain ⟨c0, c1⟩ := HXX.out _ hX.below))
          have HB := Lib.hid (HW.out _ hX.below)
          clear hX
          go_wp2_with fail
          go_ret
          exact ⟨rfl, HB.out⟩
        · have hk0 : k = 1 := HKR.out
          subst hk0
          have hbk := HBACK.out
          rw [if_pos rfl] at hbk
          obtain ⟨k1, k2, k3, k4⟩ := hbk
          have HIS := Lib.hid k1
          have HNE := Lib.hid k2
          have HLT : Hid (Y.left < 4294967296 ∧ X.left < 4294967296) := ⟨k3, k4⟩
          clear k1 k2 k3 k4
          have hb0 : BX w7 w9.drew [(gy, Y), (gx, X)] := hBX.drew
          clear hBX
          obtain ⟨P, hP⟩ : ∃ P, C.nz X.left = P := ⟨_, rfl⟩
          rw [hP] at HNE
          have HP := Lib.hid hP
          clear hP
          have e0 : ((P.key) == (P.key)) = true := by simp
          have n0 : ((P.key) != (P.key)) = false := by simp
          have e1 : ((P.val) == (P.val)) = true := by simp
          have n1 : ((P.val) != (P.val)) = false := by simp
          have e2 : (((P.left : Int)) == ((P.left : Int))) = true := by simp
          have n2 : (((P.left : Int)) != ((P.left : Int))) = false := by simp
          have e3 : (((P.right : Int)) == ((P.right : Int))) = true := by simp
          have n3 : (((P.right : Int)) != ((P.right : Int))) = false := by simp
          have e4 : ((P.size) == (P.size)) = true := by simp
          have n4 : ((P.size) != (P.size)) = false := by simp
          have e5 : ((P.sum) == (P.sum)) = true := by simp
          have n5 : ((P.sum) != (P.sum)) = false := by simp
          have e6 : ((P.mn) == (P.mn)) = true := by simp
          have n6 : ((P.mn) != (P.mn)) = false := by simp
          have e7 : ((P.mx) == (P.mx)) = true := by simp
          have n7 : ((P.mx) != (P.mx)) = false := by simp
          go_wp2_with fail
          obtain ⟨⟨x0, x1, x2, x3, x4, x5, x6, x7⟩, -⟩ := row8_of (hb0.at_ (gx, X) (by simp)).2; obtain ⟨⟨y0, y1, y2, y3, y4, y5, y6, y7⟩, -⟩ := row8_of (hb0.at_ (gy, Y) (by simp)).2; obtain ⟨c0, c1⟩ := HXX.out _ hb0.below
          go_region_held3 (fun w' => w'.cell? ⟨q, 0, none⟩ = some (.slice da N dc) ∧ w'.cell? ⟨q, 1, none⟩ = some (.slice db M dd) ∧ w'.cell? ⟨gx, 0, none⟩ = some (.int .i64 X.key) ∧ w'.cell? ⟨gx, 1, none⟩ = some (.int .i64 X.val) ∧ w'.cell? ⟨gx, 2, none⟩ = some (.int .u32 (X.left : Int)) ∧ w'.cell? ⟨gx, 3, none⟩ = some (.int .u32 (X.right : Int)) ∧ w'.cell? ⟨gx, 4, none⟩ = some (.int .i64 X.size) ∧ w'.cell? ⟨gx, 5, none⟩ = some (.int .i64 X.sum) ∧ w'.cell? ⟨gx, 6, none⟩ = some (.int .i64 X.mn) ∧ w'.cell? ⟨gx, 7, none⟩ = some (.int .i64 X.mx) ∧ w'.cell? ⟨gy, 0, none⟩ = some (.int .i64 Y.key) ∧ w'.cell? ⟨gy, 1, none⟩ = some (.int .i64 Y.val) ∧ w'.cell? ⟨gy, 2, none⟩ = some (.int .u32 (Y.left : Int)) ∧ w'.cell? ⟨gy, 3, none⟩ = some (.int .u32 (Y.right : Int)) ∧ w'.cell? ⟨gy, 4, none⟩ = some (.int .i64 Y.size) ∧ w'.cell? ⟨gy, 5, none⟩ = some (.int .i64 Y.sum) ∧ w'.cell? ⟨gy, 6, none⟩ = some (.int .i64 Y.mn) ∧ w'.cell? ⟨gy, 7, none⟩ = some (.int .i64 Y.mx)) (go_keep) (first
            | (go_at_call 15; refine (is12_any Y X Y.left X.right _).mono ?_; rintro e wi ⟨rfl, hbi⟩; rw [HIS.out]; have hI := BX.calm (by assumption) hbi; clear hbi; obtain ⟨⟨x0, x1, x2, x3, x4, x5, x6, x7⟩, -⟩ := row8_of (hI.at_ (gx, X) (by simp)).2; obtain ⟨⟨y0, y1, y2, y3, y4, y5, y6, y7⟩, -⟩ := row8_of (hI.at_ (gy, Y) (by simp)).2; obtain ⟨c0, c1⟩ := HXX.out _ hI.below)
            | (go_at_call_of 14 (Value.int .u32 (Y.left : Int)); refine (HAT.out _ (BX.below (by assumption)) Y.left HLT.out.1).mono ?_; rintro e wy ⟨rfl, hby⟩; rw [HNE.out]; unfold ndRow; have hY := BX.calm (by assumption) hby; clear hby; obtain ⟨⟨x0, x1, x2, x3, x4, x5, x6, x7⟩, -⟩ := row8_of (hY.at_ (gx, X) (by simp)).2; obtain ⟨⟨y0, y1, y2, y3, y4, y5, y6, y7⟩, -⟩ := row8_of (hY.at_ (gy, Y) (by simp)).2; obtain ⟨c0, c1⟩ := HXX.out _ hY.below)
            | (go_at_call_of 14 (Value.int .u32 (X.left : Int)); refine (HAT.out _ (BX.below (by assumption)) X.left HLT.out.2).mono ?_; rintro e wx ⟨rfl, hbx⟩; rw [HP.out]; unfold ndRow; have hX := BX.calm (by assumption) hbx; clear hbx; obtain ⟨⟨x0, x1, x2, x3, x4, x5, x6, x7⟩, -⟩ := row8_of (hX.at_ (gx, X) (by simp)).2; obtain ⟨⟨y0, y1, y2, y3, y4, y5, y6, y7⟩, -⟩ := row8_of (hX.at_ (gy, Y) (by simp)).2; obtain ⟨c0, c1⟩ := HXX.out _ hX.below))
          have HB := Lib.hid (HW.out _ hX.below)
          clear hX
          go_wp2_with fail
          go_ret
          exact ⟨rfl, HB.out⟩
    · have HB := Lib.hid HS4.out.below
      clear q1 HS4
      go_wp2_with fail
      go_ret
      exact ⟨rfl, HB.out⟩
end Go.Proofs.Ytkhfofpbmnapjaa
