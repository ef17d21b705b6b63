/- LookupNeighbors over contracts. -/
import Derived.Test.YtigogohcelgggaaLawLkGets
import Derived.Test.YtigogohcelgggaaNear
set_option linter.unusedVariables false
set_option linter.unusedSimpArgs false
namespace Go.Proofs.Ytigogohcelgggaa
open Go.RowKit
theorem enA_some (e : En) : enA (some e) = #[.int .i64 e.key, .int .i64 e.val] := rfl
theorem enA_none : enA none = #[.int .i64 0, .int .i64 0] := rfl
set_option maxHeartbeats 8000000 in
set_option maxRecDepth 100000 in
theorem neighbors_walk (I : AImpl) (K : LkImpl I) {a : Option Addr} {n c : Nat} {raw : List En} {tilt key : Int} {w : World} (hE : EnsAt w a raw) (hn : raw.length = n) (hnm : n ≤ 9223372036854775807) (ht0 : 0 ≤ tilt) (ht1 : tilt < 18446744073709551616) (hkey : i64R key) :
    Calls Try.prog 5 #[.slice a n c, .int .u64 tilt, .int .i64 key] w (Calm w (.bool true)) := by
  have HKEY := Lib.hid hkey
  clear hkey
  have HK := Lib.hid K
  have HWF : Hid (∀ y ∈ listE raw 120, i64R y.key ∧ i64R y.val) := fun y hy => hE.wf y (listE_mem hy)
  have HL := Lib.hid (list_any (c := c) (k := 120) hE hn hnm (by decide))
  have HT : Hid (0 ≤ tilt ∧ tilt < 18446744073709551616) := ⟨ht0, ht1⟩
  have HUP := Lib.hid (listE_up raw 120)
  have HLEN := Lib.hid (listE_len raw 120)
  clear K hE hn hnm ht0 ht1
  go_enter Try.func5, Try.ntmps5
  go_wp2_with fail
  refine HL.out.mono ?_
  rintro e w1 ⟨a1, c1, rfl, hr1, hb1⟩
  have HR1 := Lib.hid hr1
  have HB1 := Lib.hid hb1
  clear hr1 hb1 HL
  generalize listE raw 120 = l at HUP HLEN HR1 HWF ⊢
  obtain ⟨L, hL⟩ : ∃ L, l.length = L := ⟨_, rfl⟩
  rw [hL] at HLEN HR1 ⊢
  have HLL := Lib.hid hL
  have hLi : (L : Int) ≤ 120 := by have := HLEN.out; omega
  have HE1 := Lib.hid (ens_row hL HR1.out HWF.out)
  have HC1 := Lib.hid (row_caps HR1.out)
  clear hL
  go_wp2_with fail
  refine (grow_any I (sp := 1) (m := L + 1) HE1.out HLL.out HC1.out.1 HC1.out.2 rfl (by omega) (by have := HLEN.out; omega) HT.out.1 HT.out.2).mono ?_
  rintro e w2 ⟨p, A, ri, t, F, rfl, hg⟩
  obtain ⟨pa, rfl⟩ := I.ptr hg.is
  have HTR := Lib.hid (hg.planted.tree HUP.out)
  have HPL := Lib.hid hg.planted
  have HS2 := Lib.hid (Scn.init hg HB1.out HR1.out)
  clear hg HR1 HE1 HC1 HT
  have hmost : mostI L ≤ 1000 ∧ 0 ≤ mostI L := by
    have h1 := (xh_spec (n := L) (by have := HLEN.out; omega)).2.1
    unfold mostI
    omega
  have HMOST := Lib.hid hmost
  have HML : Hid (mostI l.length = mostI L) := by show _ = _; rw [HLL.out]
  clear hmost
  go_wp2_with fail
  refine (awake9_any I HK.out w2).mono ?_
  rintro e w3 ⟨rfl, hb3⟩
  have HS3 := Lib.hid (HS2.out.calm hb3)
  clear hb3 HS2
  have HRD0 : Hid (0 ≤ (0 : Int) ∧ (0 : Int) ≤ 1000 * 0) := ⟨by decide, by decide⟩
  have HRI : Hid (l = [] → ri = 0) := fun h => by
    have h1 := HTR.out.size
    rw [h] at h1
    have h2 := HTR.out.sub
    cases h2 with
    | nil => rfl
    | node _ _ _ _ _ _ _ => simp [Tr.size] at h1
  cases hg : getE l key with
  | some e0 =>
    obtain ⟨hk0, hfl, hce, hbe⟩ := near_in HUP.out hg
    have HEW := Lib.hid (HWF.out e0 (get_some hg).1)
    have HFL : Hid (enA (floorE l key) = #[.int .i64 key, .int .i64 e0.val] ∧ (floorE l key).isSome = true) := by rw [hfl, enA_some, hk0]; exact ⟨rfl, rfl⟩
    have HCE : Hid (enA (ceilE l key) = #[.int .i64 key, .int .i64 e0.val] ∧ (ceilE l key).isSome = true) := by rw [hce, enA_some, hk0]; exact ⟨rfl, rfl⟩
    have HGE : Hid ((getE l key).elim 0 (·.val) = e0.val ∧ (getE l key).isSome = true) := by rw [hg]; exact ⟨rfl, rfl⟩
    have HBE := Lib.hid hbe
    have HK0 := Lib.hid hk0
    obtain ⟨V, hV⟩ : ∃ V, e0.val = V := ⟨_, rfl⟩
    rw [hV] at HFL HCE HGE
    have HV := Lib.hid hV
    clear hg hfl hce hbe hk0 hV
    go_wp2_with fail
    refine (HS3.out.call fun F hI => HK.out.floor key _ hI HTR.out HRD0.out.1 (by have := HRD0.out; omega) HKEY.out).mono ?_
    rintro e wc1 ⟨rfl, rd1, hsc, hr0, hr1⟩
    rw [HML.out] at hr1
    have HRD1 : Hid (0 ≤ rd1 ∧ rd1 ≤ 1000) := by have h1 := HRD0.out; have h2 := HMOST.out; exact ⟨by omega, by omega⟩
    have HSc1 := Lib.hid hsc
    clear hsc hr0 hr1
    unfold enR
    rw [HFL.out.1, HFL.out.2]
    go_upto_region 6 with fail
    have hsd := HSc1.out.box #[.int .i64 key, .int .i64 V] 37
    generalize wc1.alloc (Obj.cells #[.int .i64 key, .int .i64 V] 37) = wd1 at hsd ⊢
    generalize wc1.heap.size = g1 at hsd ⊢
    have HS1 := Lib.hid hsd
    clear hsd HSc1
    go_wp2_with fail
    refine (HS1.out.call fun F hI => HK.out.ceiling key _ hI HTR.out HRD1.out.1 (by have := HRD1.out; omega) HKEY.out).mono ?_
    rintro e wc2 ⟨rfl, rd2, hsc, hr0, hr1⟩
    rw [HML.out] at hr1
    have HRD2 : Hid (0 ≤ rd2 ∧ rd2 ≤ 2000) := by have h1 := HRD1.out; have h2 := HMOST.out; exact ⟨by omega, by omega⟩
    have HSc2 := Lib.hid hsc
    clear hsc hr0 hr1
    unfold enR
    rw [HCE.out.1, HCE.out.2]
    go_upto_region 7 with fail
    have hsd := HSc2.out.box #[.int .i64 key, .int .i64 V] 37
    generalize wc2.alloc (Obj.cells #[.int .i64 key, .int .i64 V] 37) = wd2 at hsd ⊢
    generalize wc2.heap.size = g2 at hsd ⊢
    have HS2 := Lib.hid hsd
    clear hsd HSc2
    go_wp2_with fail
    refine (HS2.out.call fun F hI => HK.out.get key _ hI HTR.out HRD2.out.1 (by have := HRD2.out; omega) HKEY.out).mono ?_
    rintro e we ⟨rfl, rd3, hsc, hr0, hr1⟩
    rw [HML.out] at hr1
    have HRD3 : Hid (0 ≤ rd3 ∧ rd3 ≤ 3000) := by have h1 := HRD2.out; have h2 := HMOST.out; exact ⟨by omega, by omega⟩
    have HS3' := Lib.hid hsc
    rw [HGE.out.1, HGE.out.2]
    obtain ⟨x0, x1, -, -⟩ := hsc.two (g := g1) (x := key) (y := V) (t := 37) (by simp)
    obtain ⟨y0, y1, -, -⟩ := hsc.two (g := g2) (x := key) (y := V) (t := 37) (by simp)
    have hkk : (key == key) = true := by simp
    have hvv : (V == V) = true := by simp
    clear hsc hr0 hr1 HS1 HS2
    go_upto_region 11 with fail
    clear x0 x1 y0 y1
    rcases HBE.out with ⟨hbn, hhd⟩ | ⟨b, hbs, hbk, hbm, hab⟩
    · have HBN : Hid (enA (belowE l key) = #[.int .i64 0, .int .i64 0] ∧ (belowE l key).isSome = false) := by rw [hbn]; exact ⟨rfl, rfl⟩
      have HHD : Hid (enA l.head? = #[.int .i64 key, .int .i64 V] ∧ l.head?.isSome = true) := by rw [hhd, enA_some, HK0.out, HV.out]; exact ⟨rfl, rfl⟩
      clear hbn hhd
      go_wp2_with fail
      refine (HS3'.out.call fun F hI => HK.out.below key _ hI HTR.out HRD3.out.1 (by have := HRD3.out; omega) HKEY.out).mono ?_
      rintro e wc4 ⟨rfl, rd4, hsc, hr0, hr1⟩
      rw [HML.out] at hr1
      have HRD4 : Hid (0 ≤ rd4 ∧ rd4 ≤ 4000) := by have h1 := HRD3.out; have h2 := HMOST.out; exact ⟨by omega, by omega⟩
      have HSc4 := Lib.hid hsc
      clear hsc hr0 hr1
      unfold enR
      rw [HBN.out.1, HBN.out.2]
      go_upto_region 12 with fail
      have hsd := HSc4.out.box #[.int .i64 0, .int .i64 0] 37
      generalize wc4.alloc (Obj.cells #[.int .i64 0, .int .i64 0] 37) = wd4 at hsd ⊢
      generalize wc4.heap.size = g3 at hsd ⊢
      have HS4 := Lib.hid hsd
      clear hsd HSc4
      go_wp2_with fail
      refine (HS4.out.call fun F hI => HK.out.first _ hI HTR.out HRD4.out.1 (by have := HRD4.out; omega) (fun y hy => (HWF.out y hy).1)).mono ?_
      rintro e wc5 ⟨rfl, rd5, hsc, hr0, hr1⟩
      rw [HML.out] at hr1
      have HRD5 : Hid (0 ≤ rd5 ∧ rd5 ≤ 5000) := by have h1 := HRD4.out; have h2 := HMOST.out; exact ⟨by omega, by omega⟩
      have HSc5 := Lib.hid hsc
      clear hsc hr0 hr1
      unfold enR
      rw [HHD.out.1, HHD.out.2]
      go_upto_region 14 with fail
      have hsd := HSc5.out.box #[.int .i64 key, .int .i64 V] 37
      generalize wc5.alloc (Obj.cells #[.int .i64 key, .int .i64 V] 37) = wd5 at hsd ⊢
      generalize wc5.heap.size = g4 at hsd ⊢
      have HS5 := Lib.hid hsd
      clear hsd HSc5
      obtain ⟨x0, x1, -, -⟩ := HS5.out.two (g := g1) (x := key) (y := V) (t := 37) (by simp)
      obtain ⟨y0, y1, -, -⟩ := HS5.out.two (g := g4) (x := key) (y := V) (t := 37) (by simp)
      have HBZ := Lib.hid HS5.out.below
      clear HS4 HS5 HS3'
      go_wp2_with fail
      go_ret
      exact ⟨rfl, HBZ.out⟩
    · have HBW := Lib.hid (HWF.out b hbm)
      have HBS : Hid (enA (belowE l key) = #[.int .i64 b.key, .int .i64 b.val] ∧ (belowE l key).isSome = true) := by rw [hbs]; exact ⟨rfl, rfl⟩
      have HAB : Hid (enA (aboveE l b.key) = #[.int .i64 key, .int .i64 V] ∧ (aboveE l b.key).isSome = true) := by rw [hab, enA_some, HK0.out, HV.out]; exact ⟨rfl, rfl⟩
      have hbd : decide (b.key < key) = true := decide_eq_true hbk
      obtain ⟨bk, hbk2⟩ : ∃ x, b.key = x := ⟨_, rfl⟩
      obtain ⟨bv, hbv2⟩ : ∃ x, b.val = x := ⟨_, rfl⟩
      rw [hbk2, hbv2] at HBS HBW
      rw [hbk2] at HAB hbd
      clear hbs hbk hbm hab hbk2 hbv2
      go_wp2_with fail
      refine (HS3'.out.call fun F hI => HK.out.below key _ hI HTR.out HRD3.out.1 (by have := HRD3.out; omega) HKEY.out).mono ?_
      rintro e wc4 ⟨rfl, rd4, hsc, hr0, hr1⟩
      rw [HML.out] at hr1
      have HRD4 : Hid (0 ≤ rd4 ∧ rd4 ≤ 4000) := by have h1 := HRD3.out; have h2 := HMOST.out; exact ⟨by omega, by omega⟩
      have HSc4 := Lib.hid hsc
      clear hsc hr0 hr1
      unfold enR
      rw [HBS.out.1, HBS.out.2]
      go_upto_region 12 with fail
      have hsd := HSc4.out.box #[.int .i64 bk, .int .i64 bv] 37
      generalize wc4.alloc (Obj.cells #[.int .i64 bk, .int .i64 bv] 37) = wd4 at hsd ⊢
      generalize wc4.heap.size = g3 at hsd ⊢
      have HS4 := Lib.hid hsd
      clear hsd HSc4
      obtain ⟨b0, b1, -, -⟩ := HS4.out.two (g := g3) (x := bk) (y := bv) (t := 37) (by simp)
      go_wp2_with fail
      refine (HS4.out.call fun F hI => HK.out.above bk _ hI HTR.out HRD4.out.1 (by have := HRD4.out; omega) HBW.out.1).mono ?_
      rintro e wc5 ⟨rfl, rd5, hsc, hr0, hr1⟩
      rw [HML.out] at hr1
      have HRD5 : Hid (0 ≤ rd5 ∧ rd5 ≤ 5000) := by have h1 := HRD4.out; have h2 := HMOST.out; exact ⟨by omega, by omega⟩
      have HSc5 := Lib.hid hsc
      clear hsc hr0 hr1
      unfold enR
      rw [HAB.out.1, HAB.out.2]
      go_upto_region 16 with fail
      have hsd := HSc5.out.box #[.int .i64 key, .int .i64 V] 37
      generalize wc5.alloc (Obj.cells #[.int .i64 key, .int .i64 V] 37) = wd5 at hsd ⊢
      generalize wc5.heap.size = g5 at hsd ⊢
      have HS5 := Lib.hid hsd
      clear hsd HSc5
      clear b0 b1
      obtain ⟨x0, x1, -, -⟩ := HS5.out.two (g := g1) (x := key) (y := V) (t := 37) (by simp)
      obtain ⟨y0, y1, -, -⟩ := HS5.out.two (g := g5) (x := key) (y := V) (t := 37) (by simp)
      obtain ⟨b0, b1, -, -⟩ := HS5.out.two (g := g3) (x := bk) (y := bv) (t := 37) (by simp)
      have HBZ := Lib.hid HS5.out.below
      clear HS4 HS5 HS3'
      go_wp2_with fail
      go_ret
      exact ⟨rfl, HBZ.out⟩
  | none =>
    obtain ⟨hfx, hcy, hab, hnil⟩ := near_out HUP.out hg
    have HGE : Hid ((getE l key).elim 0 (·.val) = 0 ∧ (getE l key).isSome = false) := by rw [hg]; exact ⟨rfl, rfl⟩
    have HNIL := Lib.hid hnil
    have HABV := Lib.hid hab
    obtain ⟨fo, hfo⟩ : ∃ o, floorE l key = o := ⟨_, rfl⟩
    obtain ⟨co, hco⟩ : ∃ o, ceilE l key = o := ⟨_, rfl⟩
    have HFO := Lib.hid hfo
    have HCO := Lib.hid hco
    have HFX := Lib.hid hfx
    have HCY := Lib.hid hcy
    obtain ⟨X, hX⟩ : ∃ X, fo.elim (0 : Int) (·.key) = X := ⟨_, rfl⟩
    obtain ⟨Y, hY⟩ : ∃ Y, fo.elim (0 : Int) (·.val) = Y := ⟨_, rfl⟩
    obtain ⟨Z, hZ⟩ : ∃ Z, fo.isSome = Z := ⟨_, rfl⟩
    obtain ⟨X2, hX2⟩ : ∃ X, co.elim (0 : Int) (·.key) = X := ⟨_, rfl⟩
    obtain ⟨Y2, hY2⟩ : ∃ Y, co.elim (0 : Int) (·.val) = Y := ⟨_, rfl⟩
    obtain ⟨Z2, hZ2⟩ : ∃ Z, co.isSome = Z := ⟨_, rfl⟩
    have HFL : Hid (enA (floorE l key) = #[.int .i64 X, .int .i64 Y] ∧ (floorE l key).isSome = Z) := by rw [hfo]; show _ ∧ _; unfold enA; rw [hX, hY]; exact ⟨rfl, hZ⟩
    have HCE : Hid (enA (ceilE l key) = #[.int .i64 X2, .int .i64 Y2] ∧ (ceilE l key).isSome = Z2) := by rw [hco]; show _ ∧ _; unfold enA; rw [hX2, hY2]; exact ⟨rfl, hZ2⟩
    have HXZ : Hid (Z = true → X < key ∧ i64R X ∧ (Z2 = true → enA (aboveE l X) = #[.int .i64 X2, .int .i64 Y2] ∧ (aboveE l X).isSome = true)) := fun hz => by
      cases fo with
      | none => rw [← hZ] at hz; cases hz
      | some x =>
        have hx := HFX.out x HFO.out
        have hXx : x.key = X := hX
        refine ⟨by rw [← hXx]; exact hx.1, by rw [← hXx]; exact (HWF.out x hx.2).1, fun hz2 => ?_⟩
        cases co with
        | none => rw [← hZ2] at hz2; cases hz2
        | some y =>
          have h := HABV.out x y HFO.out HCO.out
          rw [hXx] at h
          rw [h, enA_some, show y.key = X2 from hX2, show y.val = Y2 from hY2]; exact ⟨rfl, rfl⟩
    have HYZ : Hid (Z2 = true → key < X2) := fun hz => by
      cases co with
      | none => rw [← hZ2] at hz; cases hz
      | some y => have h := HCY.out y HCO.out; rw [show y.key = X2 from hX2] at h; exact h
    have HEMP : Hid (Z = false → Z2 = false → ri = 0) := fun h1 h2 => by
      rw [← hZ] at h1
      rw [← hZ2] at h2
      exact HRI.out (HNIL.out (by rw [hfo]; exact isSome_false h1) (by rw [hco]; exact isSome_false h2))
    clear hg hfx hcy hab hnil hfo hco hX hY hZ hX2 hY2 hZ2
    go_wp2_with fail
    refine (HS3.out.call fun F hI => HK.out.floor key _ hI HTR.out HRD0.out.1 (by have := HRD0.out; omega) HKEY.out).mono ?_
    rintro e wc1 ⟨rfl, rd1, hsc, hr0, hr1⟩
    rw [HML.out] at hr1
    have HRD1 : Hid (0 ≤ rd1 ∧ rd1 ≤ 1000) := by have h1 := HRD0.out; have h2 := HMOST.out; exact ⟨by omega, by omega⟩
    have HSc1 := Lib.hid hsc
    clear hsc hr0 hr1
    unfold enR
    rw [HFL.out.1, HFL.out.2]
    go_upto_region 6 with fail
    have hsd := HSc1.out.box #[.int .i64 X, .int .i64 Y] 37
    generalize wc1.alloc (Obj.cells #[.int .i64 X, .int .i64 Y] 37) = wd1 at hsd ⊢
    generalize wc1.heap.size = g1 at hsd ⊢
    have HS1 := Lib.hid hsd
    clear hsd HSc1
    go_wp2_with fail
    refine (HS1.out.call fun F hI => HK.out.ceiling key _ hI HTR.out HRD1.out.1 (by have := HRD1.out; omega) HKEY.out).mono ?_
    rintro e wc2 ⟨rfl, rd2, hsc, hr0, hr1⟩
    rw [HML.out] at hr1
    have HRD2 : Hid (0 ≤ rd2 ∧ rd2 ≤ 2000) := by have h1 := HRD1.out; have h2 := HMOST.out; exact ⟨by omega, by omega⟩
    have HSc2 := Lib.hid hsc
    clear hsc hr0 hr1
    unfold enR
    rw [HCE.out.1, HCE.out.2]
    go_upto_region 7 with fail
    have hsd := HSc2.out.box #[.int .i64 X2, .int .i64 Y2] 37
    generalize wc2.alloc (Obj.cells #[.int .i64 X2, .int .i64 Y2] 37) = wd2 at hsd ⊢
    generalize wc2.heap.size = g2 at hsd ⊢
    have HS2 := Lib.hid hsd
    clear hsd HSc2
    go_wp2_with fail
    refine (HS2.out.call fun F hI => HK.out.get key _ hI HTR.out HRD2.out.1 (by have := HRD2.out; omega) HKEY.out).mono ?_
    rintro e we ⟨rfl, rd3, hsc, hr0, hr1⟩
    rw [HML.out] at hr1
    have HRD3 : Hid (0 ≤ rd3 ∧ rd3 ≤ 3000) := by have h1 := HRD2.out; have h2 := HMOST.out; exact ⟨by omega, by omega⟩
    have HS3' := Lib.hid hsc
    rw [HGE.out.1, HGE.out.2]
    obtain ⟨x0, x1, -, -⟩ := hsc.two (g := g1) (x := X) (y := Y) (t := 37) (by simp)
    obtain ⟨y0, y1, -, -⟩ := hsc.two (g := g2) (x := X2) (y := Y2) (t := 37) (by simp)
    clear hsc hr0 hr1 HS1 HS2
    cases Z with
    | true =>
      obtain ⟨hlt, hXR, hab⟩ := HXZ.out rfl
      have hge : decide (key ≤ X) = false := decide_eq_false (by omega)
      have HXR := Lib.hid hXR
      cases Z2 with
      | true =>
        have hgt := HYZ.out rfl
        have hle : decide (X2 ≤ key) = false := decide_eq_false (by omega)
        have HAB := Lib.hid (hab rfl)
        clear hlt hXR hab hgt
        go_wp2_with fail
        refine (HS3'.out.call fun F hI => HK.out.above X _ hI HTR.out HRD3.out.1 (by have := HRD3.out; omega) HXR.out).mono ?_
        rintro e wc4 ⟨rfl, rd4, hsc, hr0, hr1⟩
        rw [HML.out] at hr1
        have HRD4 : Hid (0 ≤ rd4 ∧ rd4 ≤ 4000) := by have h1 := HRD3.out; have h2 := HMOST.out; exact ⟨by omega, by omega⟩
        have HSc4 := Lib.hid hsc
        clear hsc hr0 hr1
        unfold enR
        rw [HAB.out.1, HAB.out.2]
        go_upto_region 21 with fail
        have hsd := HSc4.out.box #[.int .i64 X2, .int .i64 Y2] 37
        generalize wc4.alloc (Obj.cells #[.int .i64 X2, .int .i64 Y2] 37) = wd4 at hsd ⊢
        generalize wc4.heap.size = g3 at hsd ⊢
        have HS4 := Lib.hid hsd
        clear hsd HSc4
        clear x0 x1 y0 y1 hge hle
        obtain ⟨x0, x1, -, -⟩ := HS4.out.two (g := g3) (x := X2) (y := Y2) (t := 37) (by simp)
        obtain ⟨y0, y1, -, -⟩ := HS4.out.two (g := g2) (x := X2) (y := Y2) (t := 37) (by simp)
        have hxx : (X2 == X2) = true := by simp
        have hyy : (Y2 == Y2) = true := by simp
        have HBZ := Lib.hid HS4.out.below
        clear HS4 HS3'
        go_wp2_with fail
        go_ret
        exact ⟨rfl, HBZ.out⟩
      | false =>
        have HBZ := Lib.hid HS3'.out.below
        clear hlt hXR hab HS3'
        go_wp2_with fail
        go_ret
        exact ⟨rfl, HBZ.out⟩
    | false =>
      have HBZ := Lib.hid HS3'.out.below
      cases Z2 with
      | true =>
        have hgt := HYZ.out rfl
        have hle : decide (X2 ≤ key) = false := decide_eq_false (by omega)
        clear hgt HS3'
        go_wp2_with fail
        go_ret
        exact ⟨rfl, HBZ.out⟩
      | false =>
        have hri : ((ri : Int) == 0) = true := by simp; exact HEMP.out rfl rfl
        clear HS3'
        go_wp2_with fail
        go_ret
        exact ⟨rfl, HBZ.out⟩
end Go.Proofs.Ytigogohcelgggaa
