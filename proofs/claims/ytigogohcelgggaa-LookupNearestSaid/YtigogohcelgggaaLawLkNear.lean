/- LookupNearest over contracts. -/
import Derived.Test.YtigogohcelgggaaLawLkGets
set_option linter.unusedVariables false
set_option linter.unusedSimpArgs false
namespace Go.Proofs.Ytigogohcelgggaa
open Go.RowKit
theorem own_three (w : World) (x y z : Value) (t : TypeId) : (w.alloc (.cells #[x, y, z] t)).ownsRow w.heap.size t 1 (.slice (some ⟨w.heap.size, 0, none⟩) 3 3) 3 [x, y, z] :=
  ⟨rfl, .inr ⟨w.heap.size, 3, #[x, y, z], rfl, Nat.le_refl _, heap_alloc_new w _, Nat.le_refl _, by unfold maxLen; omega, rfl, rfl⟩⟩
def AskRel4 (I : AImpl) (B : Nat) (w0 : World) (p : Value) (A : Ar) (rs : List Row) (T : Nat) (i : Value) (wr : World) : Prop :=
  ∃ (j : Nat) (rd : Int), i = .int .i64 (j : Int) ∧ j ≤ T ∧ 0 ≤ rd ∧ rd ≤ 4000 * (j : Int) ∧ Scn I B w0 wr p A rd rs []
set_option maxHeartbeats 8000000 in
set_option maxRecDepth 100000 in
theorem nearest_walk (I : AImpl) (K : LkImpl I) {a : Option Addr} {n c : Nat} {raw : List En} {tilt key : Int} {at_ : Int} {w : World} (hE : EnsAt w a raw) (hn : raw.length = n) (hnm : n ≤ 9223372036854775807) (ht0 : 0 ≤ tilt) (ht1 : tilt < 18446744073709551616) (hkey : i64R key) (hat : -9223372036854775808 ≤ at_ ∧ at_ ≤ 9223372036854775807) :
    Calls Try.prog 4 #[.slice a n c, .int .u64 tilt, .int .i64 key, .int .i64 at_] w (Calm w (.bool true)) := by
  have HKEY := Lib.hid hkey
  clear hkey
  have HAT := Lib.hid hat
  clear hat
  have HK := Lib.hid K
  have HWF : Hid (∀ y ∈ listE raw 120, i64R y.key ∧ i64R y.val) := fun y hy => hE.wf y (listE_mem hy)
  have HL := Lib.hid (list_any (c := c) (k := 120) hE hn hnm (by decide))
  have HT : Hid (0 ≤ tilt ∧ tilt < 18446744073709551616) := ⟨ht0, ht1⟩
  have HUP := Lib.hid (listE_up raw 120)
  have HLEN := Lib.hid (listE_len raw 120)
  clear K hE hn hnm ht0 ht1
  go_enter Try.func4, Try.ntmps4
  go_wp2_with fail
  refine HL.out.mono ?_
  rintro e w1 ⟨a1, c1, rfl, hr1, hb1⟩
  have HR1 := Lib.hid hr1
  have HB1 := Lib.hid hb1
  clear hr1 hb1 HL
  generalize listE raw 120 = l at HUP HLEN HR1 HWF ⊢
  obtain ⟨L, hL⟩ : ∃ L, l.length = L := ⟨_, rfl⟩
  rw [hL] at HLEN HR1 ⊢
  have HLL := Lib.hid hL
  have hLi : (L : Int) ≤ 120 := by have := HLEN.out; omega
  have HE1 := Lib.hid (ens_row hL HR1.out HWF.out)
  have HC1 := Lib.hid (row_caps HR1.out)
  clear hL
  go_wp2_with fail
  refine (grow_any I (sp := 1) (m := L + 1) HE1.out HLL.out HC1.out.1 HC1.out.2 rfl (by omega) (by have := HLEN.out; omega) HT.out.1 HT.out.2).mono ?_
  rintro e w2 ⟨p, A, ri, t, F, rfl, hg⟩
  obtain ⟨pa, rfl⟩ := I.ptr hg.is
  have HTR := Lib.hid (hg.planted.tree HUP.out)
  have HPL := Lib.hid hg.planted
  have HS2 := Lib.hid (Scn.init hg HB1.out HR1.out)
  clear hg HR1 HE1 HC1 HT
  have hmost : mostI L ≤ 1000 ∧ 0 ≤ mostI L := by
    have h1 := (xh_spec (n := L) (by have := HLEN.out; omega)).2.1
    unfold mostI
    omega
  have HMOST := Lib.hid hmost
  have HML : Hid (mostI l.length = mostI L) := by show _ = _; rw [HLL.out]
  clear hmost
  go_wp2_with fail
  refine (awake9_any I HK.out w2).mono ?_
  rintro e w3 ⟨rfl, hb3⟩
  have HS3 := Lib.hid (HS2.out.calm hb3)
  clear hb3 HS2
  go_upto_region 6 with fail
  have hs6 := HS3.out.row (below_new7 w3 (.cells #[.int .i64 key, .int .i64 (-9223372036854775808), .int .i64 9223372036854775807] 2)) (own_three w3 (.int .i64 key) (.int .i64 (-9223372036854775808)) (.int .i64 9223372036854775807) 2)
  generalize w3.alloc (.cells #[.int .i64 key, .int .i64 (-9223372036854775808), .int .i64 9223372036854775807] 2) = w6 at hs6 ⊢
  generalize w3.heap.size = g0 at hs6 ⊢
  obtain ⟨i0, ji, jz0, jz1, jz2⟩ := info_parts i64Info
  have HS6 := Lib.hid hs6
  have HLI : Hid (∀ {wx : World} {rd : Int} {rs' : List Row} {bs' : List (Nat × Obj)}, Scn I w.heap.size w wx (.pointer (some pa)) A rd (rs' ++ [⟨37, 2, .slice a1 L c1, L, ensV l⟩]) bs' → EnsAt wx a1 l) := fun {wx rd rs' bs'} h => ens_row HLL.out (h.rows ⟨37, 2, .slice a1 L c1, L, ensV l⟩ (by simp)) HWF.out
  have HK3 : Hid (∀ k ∈ [key, -9223372036854775808, 9223372036854775807], i64R k) := fun k hk => by
    simp at hk
    rcases hk with rfl | rfl | rfl
    · exact HKEY.out
    · exact ⟨by decide, by decide⟩
    · exact ⟨by decide, by decide⟩
  clear hs6 HS3
  by_cases hL0 : 0 < L
  · have hli : (0 : Int) < (L : Int) := by omega
    have hx6 := Int.emod_nonneg at_ (b := (L : Int)) (by omega)
    have hx7 := Int.emod_lt_of_pos at_ (b := (L : Int)) (by omega)
    obtain ⟨j, hj⟩ := Int.eq_ofNat_of_zero_le hx6
    have hjL : j < L := by omega
    have HMX : Hid (∀ wx, Calls Try.prog 20 #[.int .i64 at_, .int .i64 (L : Int)] wx (fun e w' => e = .returned (.int .i64 (j : Int)) ∧ w' = wx)) := fun wx => (mod_any at_ L wx HAT.out.1 HAT.out.2 (by omega) (by omega)).mono fun e w' ⟨h1, h2⟩ => ⟨by rw [h1, hj], h2.symm⟩
    obtain ⟨e, he⟩ : ∃ e, l[j]? = some e := ⟨_, List.getElem?_eq_getElem (by have := HLL.out; omega)⟩
    have HEW := Lib.hid (HWF.out e (List.mem_of_getElem? he))
    obtain ⟨b, off, rfl, hb, c0, -⟩ := ((HLI.out (rs' := [_]) HS6.out)).at he
    have hji : (j : Int) < (L : Int) := by omega
    have hj0 : (0 : Int) ≤ (j : Int) := by omega
    have hrow := (HS6.out.calm (below_new7 w6 (.cells #[.int .i64 e.key] 2))).rows ⟨2, 1, .slice (some ⟨g0, 0, none⟩) 3 3, 3, [.int .i64 key, .int .i64 (-9223372036854775808), .int .i64 9223372036854775807]⟩ (by simp)
    have hB := (HS6.out.calm (below_new7 w6 (.cells #[.int .i64 e.key] 2))).mr.hB
    clear he hb hj hjL hx6 hx7 hL0
    go_wp2_with (first
      | (go_at_call 20; refine (HMX.out _).mono ?_; rintro e wy ⟨rfl, rfl⟩)
      | (at_builtin; refine wpList_append_own_at _ rfl (.tmp 41) (.tmp 50) 35 rfl w.heap.size 2 i0 (.int .i64 0) 1 8 Try.underlying35 ji jz0 jz1 jz2 rfl (by decide) _ 3 [.int .i64 key, .int .i64 (-9223372036854775808), .int .i64 9223372036854775807] rfl hrow ⟨_, 0, none⟩ 1 1 [.int .i64 e.key] rfl rfl (cell_one_new _ _ _) (one_cell1 _ _) (by unfold maxLen; omega) (by omega) hB ?_; intro v6 w6 ho6 hg6 _ hv6))
    obtain ⟨va, vc, rfl⟩ := row_val ho6
    obtain ⟨g', rfl⟩ := row_head ho6 (by omega)
    have hs8 := (HS6.out.calm (below_new7 _ (.cells #[.int .i64 e.key] 2))).grew (v' := .slice (some ⟨g', 0, none⟩) (3 + 1) vc) (n' := 3 + 1) (xs' := i64s [key, -9223372036854775808, 9223372036854775807, e.key]) ho6 hg6 hv6
    have HK4 : Hid (∀ k ∈ [key, -9223372036854775808, 9223372036854775807, e.key], i64R k) := fun k hk => by
      rcases List.mem_append.1 (show k ∈ [key, -9223372036854775808, 9223372036854775807] ++ [e.key] from hk) with hk | hk
      · exact HK3.out k hk
      · simp at hk; rw [hk]; exact HEW.out.1
    have HR9 : Hid (AskRel4 I w.heap.size w (.pointer (some pa)) A [⟨2, 1, .slice (some ⟨g', 0, none⟩) 4 vc, 4, i64s [key, -9223372036854775808, 9223372036854775807, e.key]⟩, ⟨37, 2, .slice (some ⟨b, off, none⟩) L c1, L, ensV l⟩] 4 (.int .i64 0) w6) := ⟨0, 0, rfl, Nat.zero_le _, by decide, by decide, hs8⟩
    clear hs8 ho6 hg6 hv6 hrow hB c0 HS6
    go_loopw [14] (fun i wr => AskRel4 I w.heap.size w (.pointer (some pa)) A [⟨2, 1, .slice (some ⟨g', 0, none⟩) 4 vc, 4, i64s [key, -9223372036854775808, 9223372036854775807, e.key]⟩, ⟨37, 2, .slice (some ⟨b, off, none⟩) L c1, L, ensV l⟩] 4 i wr) (fun i _ => 4 - (intOf i).toNat)
    case atStart => exact HR9.out
    case round =>
      clear HR9
      obtain ⟨y, rd, rfl, hy, hrd0, hrd1, hS⟩ := hrel
      have HSq := Lib.hid hS
      have HRD0 : Hid (0 ≤ rd ∧ rd ≤ 1000 * (0 : Int) + 4000 * (y : Int) ∧ rd ≤ 1000000) := ⟨hrd0, by omega, by omega⟩
      have HY : Hid (y ≤ 4) := hy
      have hy0 : (0 : Int) ≤ (y : Int) := by omega
      clear hS hy hrd0 hrd1
      by_cases hlt : y < 4
      · have hyi : (y : Int) < 4 := by omega
        obtain ⟨kq, hkq⟩ : ∃ kq, ([key, -9223372036854775808, 9223372036854775807, e.key])[y]? = some kq := ⟨_, List.getElem?_eq_getElem (by simp; omega)⟩
        have HQW := Lib.hid (HK4.out kq (List.mem_of_getElem? hkq))
        have HLT := Lib.hid hlt
        have c7 := key_cell (HSq.out.rows ⟨2, 1, .slice (some ⟨g', 0, none⟩) 4 vc, 4, i64s [key, -9223372036854775808, 9223372036854775807, e.key]⟩ (by simp)) hkq rfl
        clear hkq hlt
        go_upto_region 12 with fail
        have HSa := HSq
        clear c7 HSq
        go_wp2_with fail
        refine HSa.out.reads.mono ?_
        rintro e wb0 ⟨rfl, hsb⟩
        have HSb0 := Lib.hid hsb
        clear hsb HSa
        go_wp2_with fail
        refine (HSb0.out.call fun F hI => HK.out.floor kq wb0 hI HTR.out HRD0.out.1 (by have := HRD0.out; omega) HQW.out).mono ?_
        rintro e wc0 ⟨rfl, rd0, hsc, hr0, hr1⟩
        rw [HML.out] at hr1
        have HRR0 : Hid (rd ≤ rd0 ∧ rd0 ≤ rd + mostI L) := ⟨hr0, hr1⟩
        have HRD1 : Hid (0 ≤ rd0 ∧ rd0 ≤ 1000 * (1 : Int) + 4000 * (y : Int) ∧ rd0 ≤ 1000000) := by have h1 := HRD0.out; have h2 := HMOST.out; have h3 := HY.out; exact ⟨by omega, by omega, by omega⟩
        unfold enR enA
        obtain ⟨X0, hX⟩ : ∃ X, (floorE l kq).elim (0 : Int) (·.key) = X := ⟨_, rfl⟩
        obtain ⟨Y0, hY⟩ : ∃ Y, (floorE l kq).elim (0 : Int) (·.val) = Y := ⟨_, rfl⟩
        obtain ⟨Z0, hZ⟩ : ∃ Z, (floorE l kq).isSome = Z := ⟨_, rfl⟩
        rw [hX, hY, hZ]
        have HF0 : Hid (enA (floorE l kq) = #[.int .i64 X0, .int .i64 Y0] ∧ (floorE l kq).isSome = Z0) := by show _ ∧ _; unfold enA; rw [hX, hY]; exact ⟨rfl, hZ⟩
        have HSc0 := Lib.hid hsc
        clear hX hY hZ hsc hr0 hr1 HSb0
        go_upto_region 14 with fail
        have hsd := HSc0.out.box #[.int .i64 X0, .int .i64 Y0] 37
        generalize wc0.alloc (Obj.cells #[.int .i64 X0, .int .i64 Y0] 37) = wd0 at hsd ⊢
        generalize wc0.heap.size = gx at hsd ⊢
        have HSd0 := Lib.hid hsd
        clear hsd HSc0
        go_wp2_with fail
        refine (floor_any kq (HLI.out (rs' := [_]) HSd0.out) HLL.out (by have := HLEN.out; omega)).mono ?_
        rintro e we0 ⟨rfl, hbe⟩
        rw [HF0.out.1, HF0.out.2]
        have HSe0 := Lib.hid (HSd0.out.calm hbe)
        clear hbe HSd0
        go_upto_region 15 with fail
        have hsf := HSe0.out.box #[.int .i64 X0, .int .i64 Y0] 37
        generalize we0.alloc (Obj.cells #[.int .i64 X0, .int .i64 Y0] 37) = wf0 at hsf ⊢
        generalize we0.heap.size = gy at hsf ⊢
        have HSf0 := Lib.hid hsf
        clear hsf HSe0
        obtain ⟨x0, x1, -, -⟩ := HSf0.out.two (g := gx) (x := X0) (y := Y0) (t := 37) (by simp)
        obtain ⟨y0, y1, -, -⟩ := HSf0.out.two (g := gy) (x := X0) (y := Y0) (t := 37) (by simp)
        have hxx : (X0 == X0) = true := by simp
        have hyy : (Y0 == Y0) = true := by simp
        have hzz : (Z0 != Z0) = false := by simp
        go_wp2_with fail
        refine (most_any L _ (by have := HLEN.out; omega)).mono ?_
        rintro e wg0 ⟨rfl, hbg⟩
        have HSg0 := Lib.hid (HSf0.out.calm hbg)
        have HWN : Hid (rd ≤ rd0 ∧ rd0 ≤ rd + mostI L ∧ rd0 ≤ 4398046511104 ∧ mostI L ≤ 1000000 ∧ 0 ≤ rd) := by have h1 := HRR0.out; have h2 := HRD1.out; have h3 := HMOST.out; have h4 := HRD0.out; exact ⟨h1.1, h1.2, by omega, by omega, h4.1⟩
        clear hbg x0 x1 y0 y1 hxx hyy HSf0
        obtain ⟨M0, hM⟩ : ∃ M, mostI L = M := ⟨_, rfl⟩
        rw [hM] at HWN ⊢
        clear hM
        go_wp2_with fail
        refine (within_any HSg0.out.mr HWN.out.2.2.2.2 HWN.out.1 HWN.out.2.1 HWN.out.2.2.1 HWN.out.2.2.2.1).mono ?_
        rintro e wh0 ⟨rfl, hbh⟩
        have HSz0 := Lib.hid (HSg0.out.calm hbh)
        clear hbh hzz HSg0 HWN
        go_wp2_with fail
        refine HSz0.out.reads.mono ?_
        rintro e wb1 ⟨rfl, hsb⟩
        have HSb1 := Lib.hid hsb
        clear hsb HSz0
        go_wp2_with fail
        refine (HSb1.out.call fun F hI => HK.out.ceiling kq wb1 hI HTR.out HRD1.out.1 (by have := HRD1.out; omega) HQW.out).mono ?_
        rintro e wc1 ⟨rfl, rd1, hsc, hr0, hr1⟩
        rw [HML.out] at hr1
        have HRR1 : Hid (rd0 ≤ rd1 ∧ rd1 ≤ rd0 + mostI L) := ⟨hr0, hr1⟩
        have HRD2 : Hid (0 ≤ rd1 ∧ rd1 ≤ 1000 * (2 : Int) + 4000 * (y : Int) ∧ rd1 ≤ 1000000) := by have h1 := HRD1.out; have h2 := HMOST.out; have h3 := HY.out; exact ⟨by omega, by omega, by omega⟩
        unfold enR enA
        obtain ⟨X1, hX⟩ : ∃ X, (ceilE l kq).elim (0 : Int) (·.key) = X := ⟨_, rfl⟩
        obtain ⟨Y1, hY⟩ : ∃ Y, (ceilE l kq).elim (0 : Int) (·.val) = Y := ⟨_, rfl⟩
        obtain ⟨Z1, hZ⟩ : ∃ Z, (ceilE l kq).isSome = Z := ⟨_, rfl⟩
        rw [hX, hY, hZ]
        have HF1 : Hid (enA (ceilE l kq) = #[.int .i64 X1, .int .i64 Y1] ∧ (ceilE l kq).isSome = Z1) := by show _ ∧ _; unfold enA; rw [hX, hY]; exact ⟨rfl, hZ⟩
        have hsp := hsc.perm (bs' := [(gx, Obj.cells #[.int .i64 X0, .int .i64 Y0] 37 (0, 0)), (gy, Obj.cells #[.int .i64 X0, .int .i64 Y0] 37 (0, 0))]) (List.Perm.swap _ _ _)
        obtain ⟨x0, x1, f0, f1⟩ := hsp.two (g := gx) (x := X0) (y := Y0) (t := 37) (by simp)
        have hsd := hsp.set2 (.int .i64 X1) (.int .i64 Y1)
        have HSd1 := Lib.hid hsd
        clear hX hY hZ hsc hsp hsd hr0 hr1 HSb1
        go_upto_region 19 with fail
        generalize (wc1.setCell ⟨gx, 0, none⟩ (.int .i64 X1)).setCell ⟨gx, 1, none⟩ (.int .i64 Y1) = wd1 at HSd1 ⊢
        clear x0 x1 f0 f1
        go_wp2_with fail
        refine (ceiling_any kq (HLI.out (rs' := [_]) HSd1.out) HLL.out (by have := HLEN.out; omega)).mono ?_
        rintro e we1 ⟨rfl, hbe⟩
        rw [HF1.out.1, HF1.out.2]
        have hsp := (HSd1.out.calm hbe).perm (bs' := [(gy, Obj.cells #[.int .i64 X0, .int .i64 Y0] 37 (0, 0)), (gx, Obj.cells #[.int .i64 X1, .int .i64 Y1] 37 (0, 0))]) (List.Perm.swap _ _ _)
        obtain ⟨x0, x1, f0, f1⟩ := hsp.two (g := gy) (x := X0) (y := Y0) (t := 37) (by simp)
        have hsf := hsp.set2 (.int .i64 X1) (.int .i64 Y1)
        have HSf1 := Lib.hid hsf
        clear hsp hsf hbe HSd1
        go_upto_region 20 with fail
        generalize (we1.setCell ⟨gy, 0, none⟩ (.int .i64 X1)).setCell ⟨gy, 1, none⟩ (.int .i64 Y1) = wf1 at HSf1 ⊢
        clear x0 x1 f0 f1
        obtain ⟨x0, x1, -, -⟩ := HSf1.out.two (g := gx) (x := X1) (y := Y1) (t := 37) (by simp)
        obtain ⟨y0, y1, -, -⟩ := HSf1.out.two (g := gy) (x := X1) (y := Y1) (t := 37) (by simp)
        have hxx : (X1 == X1) = true := by simp
        have hyy : (Y1 == Y1) = true := by simp
        have hzz : (Z1 != Z1) = false := by simp
        go_wp2_with fail
        refine (most_any L _ (by have := HLEN.out; omega)).mono ?_
        rintro e wg1 ⟨rfl, hbg⟩
        have HSg1 := Lib.hid (HSf1.out.calm hbg)
        have HWN : Hid (rd0 ≤ rd1 ∧ rd1 ≤ rd0 + mostI L ∧ rd1 ≤ 4398046511104 ∧ mostI L ≤ 1000000 ∧ 0 ≤ rd0) := by have h1 := HRR1.out; have h2 := HRD2.out; have h3 := HMOST.out; have h4 := HRD1.out; exact ⟨h1.1, h1.2, by omega, by omega, h4.1⟩
        clear hbg x0 x1 y0 y1 hxx hyy HSf1
        obtain ⟨M1, hM⟩ : ∃ M, mostI L = M := ⟨_, rfl⟩
        rw [hM] at HWN ⊢
        clear hM
        go_wp2_with fail
        refine (within_any HSg1.out.mr HWN.out.2.2.2.2 HWN.out.1 HWN.out.2.1 HWN.out.2.2.1 HWN.out.2.2.2.1).mono ?_
        rintro e wh1 ⟨rfl, hbh⟩
        have HSz1 := Lib.hid (HSg1.out.calm hbh)
        clear hbh hzz HSg1 HWN
        go_wp2_with fail
        refine HSz1.out.reads.mono ?_
        rintro e wb2 ⟨rfl, hsb⟩
        have HSb2 := Lib.hid hsb
        clear hsb HSz1
        go_wp2_with fail
        refine (HSb2.out.call fun F hI => HK.out.below kq wb2 hI HTR.out HRD2.out.1 (by have := HRD2.out; omega) HQW.out).mono ?_
        rintro e wc2 ⟨rfl, rd2, hsc, hr0, hr1⟩
        rw [HML.out] at hr1
        have HRR2 : Hid (rd1 ≤ rd2 ∧ rd2 ≤ rd1 + mostI L) := ⟨hr0, hr1⟩
        have HRD3 : Hid (0 ≤ rd2 ∧ rd2 ≤ 1000 * (3 : Int) + 4000 * (y : Int) ∧ rd2 ≤ 1000000) := by have h1 := HRD2.out; have h2 := HMOST.out; have h3 := HY.out; exact ⟨by omega, by omega, by omega⟩
        unfold enR enA
        obtain ⟨X2, hX⟩ : ∃ X, (belowE l kq).elim (0 : Int) (·.key) = X := ⟨_, rfl⟩
        obtain ⟨Y2, hY⟩ : ∃ Y, (belowE l kq).elim (0 : Int) (·.val) = Y := ⟨_, rfl⟩
        obtain ⟨Z2, hZ⟩ : ∃ Z, (belowE l kq).isSome = Z := ⟨_, rfl⟩
        rw [hX, hY, hZ]
        have HF2 : Hid (enA (belowE l kq) = #[.int .i64 X2, .int .i64 Y2] ∧ (belowE l kq).isSome = Z2) := by show _ ∧ _; unfold enA; rw [hX, hY]; exact ⟨rfl, hZ⟩
        have hsp := hsc.perm (bs' := [(gx, Obj.cells #[.int .i64 X1, .int .i64 Y1] 37 (0, 0)), (gy, Obj.cells #[.int .i64 X1, .int .i64 Y1] 37 (0, 0))]) (List.Perm.swap _ _ _)
        obtain ⟨x0, x1, f0, f1⟩ := hsp.two (g := gx) (x := X1) (y := Y1) (t := 37) (by simp)
        have hsd := hsp.set2 (.int .i64 X2) (.int .i64 Y2)
        have HSd2 := Lib.hid hsd
        clear hX hY hZ hsc hsp hsd hr0 hr1 HSb2
        go_upto_region 24 with fail
        generalize (wc2.setCell ⟨gx, 0, none⟩ (.int .i64 X2)).setCell ⟨gx, 1, none⟩ (.int .i64 Y2) = wd2 at HSd2 ⊢
        clear x0 x1 f0 f1
        go_wp2_with fail
        refine (below_any kq (HLI.out (rs' := [_]) HSd2.out) HLL.out (by have := HLEN.out; omega)).mono ?_
        rintro e we2 ⟨rfl, hbe⟩
        rw [HF2.out.1, HF2.out.2]
        have hsp := (HSd2.out.calm hbe).perm (bs' := [(gy, Obj.cells #[.int .i64 X1, .int .i64 Y1] 37 (0, 0)), (gx, Obj.cells #[.int .i64 X2, .int .i64 Y2] 37 (0, 0))]) (List.Perm.swap _ _ _)
        obtain ⟨x0, x1, f0, f1⟩ := hsp.two (g := gy) (x := X1) (y := Y1) (t := 37) (by simp)
        have hsf := hsp.set2 (.int .i64 X2) (.int .i64 Y2)
        have HSf2 := Lib.hid hsf
        clear hsp hsf hbe HSd2
        go_upto_region 25 with fail
        generalize (we2.setCell ⟨gy, 0, none⟩ (.int .i64 X2)).setCell ⟨gy, 1, none⟩ (.int .i64 Y2) = wf2 at HSf2 ⊢
        clear x0 x1 f0 f1
        obtain ⟨x0, x1, -, -⟩ := HSf2.out.two (g := gx) (x := X2) (y := Y2) (t := 37) (by simp)
        obtain ⟨y0, y1, -, -⟩ := HSf2.out.two (g := gy) (x := X2) (y := Y2) (t := 37) (by simp)
        have hxx : (X2 == X2) = true := by simp
        have hyy : (Y2 == Y2) = true := by simp
        have hzz : (Z2 != Z2) = false := by simp
        go_wp2_with fail
        refine (most_any L _ (by have := HLEN.out; omega)).mono ?_
        rintro e wg2 ⟨rfl, hbg⟩
        have HSg2 := Lib.hid (HSf2.out.calm hbg)
        have HWN : Hid (rd1 ≤ rd2 ∧ rd2 ≤ rd1 + mostI L ∧ rd2 ≤ 4398046511104 ∧ mostI L ≤ 1000000 ∧ 0 ≤ rd1) := by have h1 := HRR2.out; have h2 := HRD3.out; have h3 := HMOST.out; have h4 := HRD2.out; exact ⟨h1.1, h1.2, by omega, by omega, h4.1⟩
        clear hbg x0 x1 y0 y1 hxx hyy HSf2
        obtain ⟨M2, hM⟩ : ∃ M, mostI L = M := ⟨_, rfl⟩
        rw [hM] at HWN ⊢
        clear hM
        go_wp2_with fail
        refine (within_any HSg2.out.mr HWN.out.2.2.2.2 HWN.out.1 HWN.out.2.1 HWN.out.2.2.1 HWN.out.2.2.2.1).mono ?_
        rintro e wh2 ⟨rfl, hbh⟩
        have HSz2 := Lib.hid (HSg2.out.calm hbh)
        clear hbh hzz HSg2 HWN
        go_wp2_with fail
        refine HSz2.out.reads.mono ?_
        rintro e wb3 ⟨rfl, hsb⟩
        have HSb3 := Lib.hid hsb
        clear hsb HSz2
        go_wp2_with fail
        refine (HSb3.out.call fun F hI => HK.out.above kq wb3 hI HTR.out HRD3.out.1 (by have := HRD3.out; omega) HQW.out).mono ?_
        rintro e wc3 ⟨rfl, rd3, hsc, hr0, hr1⟩
        rw [HML.out] at hr1
        have HRR3 : Hid (rd2 ≤ rd3 ∧ rd3 ≤ rd2 + mostI L) := ⟨hr0, hr1⟩
        have HRD4 : Hid (0 ≤ rd3 ∧ rd3 ≤ 1000 * (4 : Int) + 4000 * (y : Int) ∧ rd3 ≤ 1000000) := by have h1 := HRD3.out; have h2 := HMOST.out; have h3 := HY.out; exact ⟨by omega, by omega, by omega⟩
        unfold enR enA
        obtain ⟨X3, hX⟩ : ∃ X, (aboveE l kq).elim (0 : Int) (·.key) = X := ⟨_, rfl⟩
        obtain ⟨Y3, hY⟩ : ∃ Y, (aboveE l kq).elim (0 : Int) (·.val) = Y := ⟨_, rfl⟩
        obtain ⟨Z3, hZ⟩ : ∃ Z, (aboveE l kq).isSome = Z := ⟨_, rfl⟩
        rw [hX, hY, hZ]
        have HF3 : Hid (enA (aboveE l kq) = #[.int .i64 X3, .int .i64 Y3] ∧ (aboveE l kq).isSome = Z3) := by show _ ∧ _; unfold enA; rw [hX, hY]; exact ⟨rfl, hZ⟩
        have hsp := hsc.perm (bs' := [(gx, Obj.cells #[.int .i64 X2, .int .i64 Y2] 37 (0, 0)), (gy, Obj.cells #[.int .i64 X2, .int .i64 Y2] 37 (0, 0))]) (List.Perm.swap _ _ _)
        obtain ⟨x0, x1, f0, f1⟩ := hsp.two (g := gx) (x := X2) (y := Y2) (t := 37) (by simp)
        have hsd := hsp.set2 (.int .i64 X3) (.int .i64 Y3)
        have HSd3 := Lib.hid hsd
        clear hX hY hZ hsc hsp hsd hr0 hr1 HSb3
        go_upto_region 29 with fail
        generalize (wc3.setCell ⟨gx, 0, none⟩ (.int .i64 X3)).setCell ⟨gx, 1, none⟩ (.int .i64 Y3) = wd3 at HSd3 ⊢
        clear x0 x1 f0 f1
        go_wp2_with fail
        refine (above_any kq (HLI.out (rs' := [_]) HSd3.out) HLL.out (by have := HLEN.out; omega)).mono ?_
        rintro e we3 ⟨rfl, hbe⟩
        rw [HF3.out.1, HF3.out.2]
        have hsp := (HSd3.out.calm hbe).perm (bs' := [(gy, Obj.cells #[.int .i64 X2, .int .i64 Y2] 37 (0, 0)), (gx, Obj.cells #[.int .i64 X3, .int .i64 Y3] 37 (0, 0))]) (List.Perm.swap _ _ _)
        obtain ⟨x0, x1, f0, f1⟩ := hsp.two (g := gy) (x := X2) (y := Y2) (t := 37) (by simp)
        have hsf := hsp.set2 (.int .i64 X3) (.int .i64 Y3)
        have HSf3 := Lib.hid hsf
        clear hsp hsf hbe HSd3
        go_upto_region 30 with fail
        generalize (we3.setCell ⟨gy, 0, none⟩ (.int .i64 X3)).setCell ⟨gy, 1, none⟩ (.int .i64 Y3) = wf3 at HSf3 ⊢
        clear x0 x1 f0 f1
        obtain ⟨x0, x1, -, -⟩ := HSf3.out.two (g := gx) (x := X3) (y := Y3) (t := 37) (by simp)
        obtain ⟨y0, y1, -, -⟩ := HSf3.out.two (g := gy) (x := X3) (y := Y3) (t := 37) (by simp)
        have hxx : (X3 == X3) = true := by simp
        have hyy : (Y3 == Y3) = true := by simp
        have hzz : (Z3 != Z3) = false := by simp
        go_wp2_with fail
        refine (most_any L _ (by have := HLEN.out; omega)).mono ?_
        rintro e wg3 ⟨rfl, hbg⟩
        have HSg3 := Lib.hid (HSf3.out.calm hbg)
        have HWN : Hid (rd2 ≤ rd3 ∧ rd3 ≤ rd2 + mostI L ∧ rd3 ≤ 4398046511104 ∧ mostI L ≤ 1000000 ∧ 0 ≤ rd2) := by have h1 := HRR3.out; have h2 := HRD4.out; have h3 := HMOST.out; have h4 := HRD3.out; exact ⟨h1.1, h1.2, by omega, by omega, h4.1⟩
        clear hbg x0 x1 y0 y1 hxx hyy HSf3
        obtain ⟨M3, hM⟩ : ∃ M, mostI L = M := ⟨_, rfl⟩
        rw [hM] at HWN ⊢
        clear hM
        go_wp2_with fail
        refine (within_any HSg3.out.mr HWN.out.2.2.2.2 HWN.out.1 HWN.out.2.1 HWN.out.2.2.1 HWN.out.2.2.2.1).mono ?_
        rintro e wh3 ⟨rfl, hbh⟩
        have HSz3 := Lib.hid (HSg3.out.calm hbh)
        clear hbh hzz HSg3 HWN
        go_wp2_with fail
        have HEND : Hid (AskRel4 I w.heap.size w (.pointer (some pa)) A [⟨2, 1, .slice (some ⟨g', 0, none⟩) 4 vc, 4, i64s [key, -9223372036854775808, 9223372036854775807, e.key]⟩, ⟨37, 2, .slice (some ⟨b, off, none⟩) L c1, L, ensV l⟩] 4 (.int .i64 ((y : Int) + 1)) wh3) := ⟨y + 1, rd3, by go_num, by have := HLT.out; omega, HRD4.out.1, by have := HRD4.out; omega, HSz3.out.less (List.Sublist.refl _) (by simp)⟩
        have HMEA : Hid (4 - (intOf (.int .i64 ((y : Int) + 1))).toNat < 4 - (intOf (.int .i64 (y : Int))).toNat) := by have := HLT.out; show _ < _; simp [intOf]; omega
        refine ⟨?_, HMEA.out⟩
        repeat apply Exists.intro
        refine ⟨?_, rfl⟩
        exact HEND.out
      · have hyi : ¬ (y : Int) < 4 := by omega
        have HBZ := Lib.hid HSq.out.below
        clear hlt HSq
        go_wp2_with fail
        go_ret
        exact ⟨rfl, HBZ.out⟩
  · have hli : ¬ (0 : Int) < (L : Int) := by omega
    have HR9 : Hid (AskRel4 I w.heap.size w (.pointer (some pa)) A [⟨2, 1, .slice (some ⟨g0, 0, none⟩) 3 3, 3, i64s [key, -9223372036854775808, 9223372036854775807]⟩, ⟨37, 2, .slice a1 L c1, L, ensV l⟩] 3 (.int .i64 0) w6) := ⟨0, 0, rfl, Nat.zero_le _, by decide, by decide, HS6.out⟩
    clear hL0 HS6
    go_wp2_with fail
    go_loopw [14] (fun i wr => AskRel4 I w.heap.size w (.pointer (some pa)) A [⟨2, 1, .slice (some ⟨g0, 0, none⟩) 3 3, 3, i64s [key, -9223372036854775808, 9223372036854775807]⟩, ⟨37, 2, .slice a1 L c1, L, ensV l⟩] 3 i wr) (fun i _ => 3 - (intOf i).toNat)
    case atStart => exact HR9.out
    case round =>
      clear HR9
      obtain ⟨y, rd, rfl, hy, hrd0, hrd1, hS⟩ := hrel
      have HSq := Lib.hid hS
      have HRD0 : Hid (0 ≤ rd ∧ rd ≤ 1000 * (0 : Int) + 4000 * (y : Int) ∧ rd ≤ 1000000) := ⟨hrd0, by omega, by omega⟩
      have HY : Hid (y ≤ 3) := hy
      have hy0 : (0 : Int) ≤ (y : Int) := by omega
      clear hS hy hrd0 hrd1
      by_cases hlt : y < 3
      · have hyi : (y : Int) < 3 := by omega
        obtain ⟨kq, hkq⟩ : ∃ kq, ([key, -9223372036854775808, 9223372036854775807])[y]? = some kq := ⟨_, List.getElem?_eq_getElem (by simp; omega)⟩
        have HQW := Lib.hid (HK3.out kq (List.mem_of_getElem? hkq))
        have HLT := Lib.hid hlt
        have c7 := key_cell (HSq.out.rows ⟨2, 1, .slice (some ⟨g0, 0, none⟩) 3 3, 3, i64s [key, -9223372036854775808, 9223372036854775807]⟩ (by simp)) hkq rfl
        clear hkq hlt
        go_upto_region 12 with fail
        have HSa := HSq
        clear c7 HSq
        go_wp2_with fail
        refine HSa.out.reads.mono ?_
        rintro e wb0 ⟨rfl, hsb⟩
        have HSb0 := Lib.hid hsb
        clear hsb HSa
        go_wp2_with fail
        refine (HSb0.out.call fun F hI => HK.out.floor kq wb0 hI HTR.out HRD0.out.1 (by have := HRD0.out; omega) HQW.out).mono ?_
        rintro e wc0 ⟨rfl, rd0, hsc, hr0, hr1⟩
        rw [HML.out] at hr1
        have HRR0 : Hid (rd ≤ rd0 ∧ rd0 ≤ rd + mostI L) := ⟨hr0, hr1⟩
        have HRD1 : Hid (0 ≤ rd0 ∧ rd0 ≤ 1000 * (1 : Int) + 4000 * (y : Int) ∧ rd0 ≤ 1000000) := by have h1 := HRD0.out; have h2 := HMOST.out; have h3 := HY.out; exact ⟨by omega, by omega, by omega⟩
        unfold enR enA
        obtain ⟨X0, hX⟩ : ∃ X, (floorE l kq).elim (0 : Int) (·.key) = X := ⟨_, rfl⟩
        obtain ⟨Y0, hY⟩ : ∃ Y, (floorE l kq).elim (0 : Int) (·.val) = Y := ⟨_, rfl⟩
        obtain ⟨Z0, hZ⟩ : ∃ Z, (floorE l kq).isSome = Z := ⟨_, rfl⟩
        rw [hX, hY, hZ]
        have HF0 : Hid (enA (floorE l kq) = #[.int .i64 X0, .int .i64 Y0] ∧ (floorE l kq).isSome = Z0) := by show _ ∧ _; unfold enA; rw [hX, hY]; exact ⟨rfl, hZ⟩
        have HSc0 := Lib.hid hsc
        clear hX hY hZ hsc hr0 hr1 HSb0
        go_upto_region 14 with fail
        have hsd := HSc0.out.box #[.int .i64 X0, .int .i64 Y0] 37
        generalize wc0.alloc (Obj.cells #[.int .i64 X0, .int .i64 Y0] 37) = wd0 at hsd ⊢
        generalize wc0.heap.size = gx at hsd ⊢
        have HSd0 := Lib.hid hsd
        clear hsd HSc0
        go_wp2_with fail
        refine (floor_any kq (HLI.out (rs' := [_]) HSd0.out) HLL.out (by have := HLEN.out; omega)).mono ?_
        rintro e we0 ⟨rfl, hbe⟩
        rw [HF0.out.1, HF0.out.2]
        have HSe0 := Lib.hid (HSd0.out.calm hbe)
        clear hbe HSd0
        go_upto_region 15 with fail
        have hsf := HSe0.out.box #[.int .i64 X0, .int .i64 Y0] 37
        generalize we0.alloc (Obj.cells #[.int .i64 X0, .int .i64 Y0] 37) = wf0 at hsf ⊢
        generalize we0.heap.size = gy at hsf ⊢
        have HSf0 := Lib.hid hsf
        clear hsf HSe0
        obtain ⟨x0, x1, -, -⟩ := HSf0.out.two (g := gx) (x := X0) (y := Y0) (t := 37) (by simp)
        obtain ⟨y0, y1, -, -⟩ := HSf0.out.two (g := gy) (x := X0) (y := Y0) (t := 37) (by simp)
        have hxx : (X0 == X0) = true := by simp
        have hyy : (Y0 == Y0) = true := by simp
        have hzz : (Z0 != Z0) = false := by simp
        go_wp2_with fail
        refine (most_any L _ (by have := HLEN.out; omega)).mono ?_
        rintro e wg0 ⟨rfl, hbg⟩
        have HSg0 := Lib.hid (HSf0.out.calm hbg)
        have HWN : Hid (rd ≤ rd0 ∧ rd0 ≤ rd + mostI L ∧ rd0 ≤ 4398046511104 ∧ mostI L ≤ 1000000 ∧ 0 ≤ rd) := by have h1 := HRR0.out; have h2 := HRD1.out; have h3 := HMOST.out; have h4 := HRD0.out; exact ⟨h1.1, h1.2, by omega, by omega, h4.1⟩
        clear hbg x0 x1 y0 y1 hxx hyy HSf0
        obtain ⟨M0, hM⟩ : ∃ M, mostI L = M := ⟨_, rfl⟩
        rw [hM] at HWN ⊢
        clear hM
        go_wp2_with fail
        refine (within_any HSg0.out.mr HWN.out.2.2.2.2 HWN.out.1 HWN.out.2.1 HWN.out.2.2.1 HWN.out.2.2.2.1).mono ?_
        rintro e wh0 ⟨rfl, hbh⟩
        have HSz0 := Lib.hid (HSg0.out.calm hbh)
        clear hbh hzz HSg0 HWN
        go_wp2_with fail
        refine HSz0.out.reads.mono ?_
        rintro e wb1 ⟨rfl, hsb⟩
        have HSb1 := Lib.hid hsb
        clear hsb HSz0
        go_wp2_with fail
        refine (HSb1.out.call fun F hI => HK.out.ceiling kq wb1 hI HTR.out HRD1.out.1 (by have := HRD1.out; omega) HQW.out).mono ?_
        rintro e wc1 ⟨rfl, rd1, hsc, hr0, hr1⟩
        rw [HML.out] at hr1
        have HRR1 : Hid (rd0 ≤ rd1 ∧ rd1 ≤ rd0 + mostI L) := ⟨hr0, hr1⟩
        have HRD2 : Hid (0 ≤ rd1 ∧ rd1 ≤ 1000 * (2 : Int) + 4000 * (y : Int) ∧ rd1 ≤ 1000000) := by have h1 := HRD1.out; have h2 := HMOST.out; have h3 := HY.out; exact ⟨by omega, by omega, by omega⟩
        unfold enR enA
        obtain ⟨X1, hX⟩ : ∃ X, (ceilE l kq).elim (0 : Int) (·.key) = X := ⟨_, rfl⟩
        obtain ⟨Y1, hY⟩ : ∃ Y, (ceilE l kq).elim (0 : Int) (·.val) = Y := ⟨_, rfl⟩
        obtain ⟨Z1, hZ⟩ : ∃ Z, (ceilE l kq).isSome = Z := ⟨_, rfl⟩
        rw [hX, hY, hZ]
        have HF1 : Hid (enA (ceilE l kq) = #[.int .i64 X1, .int .i64 Y1] ∧ (ceilE l kq).isSome = Z1) := by show _ ∧ _; unfold enA; rw [hX, hY]; exact ⟨rfl, hZ⟩
        have hsp := hsc.perm (bs' := [(gx, Obj.cells #[.int .i64 X0, .int .i64 Y0] 37 (0, 0)), (gy, Obj.cells #[.int .i64 X0, .int .i64 Y0] 37 (0, 0))]) (List.Perm.swap _ _ _)
        obtain ⟨x0, x1, f0, f1⟩ := hsp.two (g := gx) (x := X0) (y := Y0) (t := 37) (by simp)
        have hsd := hsp.set2 (.int .i64 X1) (.int .i64 Y1)
        have HSd1 := Lib.hid hsd
        clear hX hY hZ hsc hsp hsd hr0 hr1 HSb1
        go_upto_region 19 with fail
        generalize (wc1.setCell ⟨gx, 0, none⟩ (.int .i64 X1)).setCell ⟨gx, 1, none⟩ (.int .i64 Y1) = wd1 at HSd1 ⊢
        clear x0 x1 f0 f1
        go_wp2_with fail
        refine (ceiling_any kq (HLI.out (rs' := [_]) HSd1.out) HLL.out (by have := HLEN.out; omega)).mono ?_
        rintro e we1 ⟨rfl, hbe⟩
        rw [HF1.out.1, HF1.out.2]
        have hsp := (HSd1.out.calm hbe).perm (bs' := [(gy, Obj.cells #[.int .i64 X0, .int .i64 Y0] 37 (0, 0)), (gx, Obj.cells #[.int .i64 X1, .int .i64 Y1] 37 (0, 0))]) (List.Perm.swap _ _ _)
        obtain ⟨x0, x1, f0, f1⟩ := hsp.two (g := gy) (x := X0) (y := Y0) (t := 37) (by simp)
        have hsf := hsp.set2 (.int .i64 X1) (.int .i64 Y1)
        have HSf1 := Lib.hid hsf
        clear hsp hsf hbe HSd1
        go_upto_region 20 with fail
        generalize (we1.setCell ⟨gy, 0, none⟩ (.int .i64 X1)).setCell ⟨gy, 1, none⟩ (.int .i64 Y1) = wf1 at HSf1 ⊢
        clear x0 x1 f0 f1
        obtain ⟨x0, x1, -, -⟩ := HSf1.out.two (g := gx) (x := X1) (y := Y1) (t := 37) (by simp)
        obtain ⟨y0, y1, -, -⟩ := HSf1.out.two (g := gy) (x := X1) (y := Y1) (t := 37) (by simp)
        have hxx : (X1 == X1) = true := by simp
        have hyy : (Y1 == Y1) = true := by simp
        have hzz : (Z1 != Z1) = false := by simp
        go_wp2_with fail
        refine (most_any L _ (by have := HLEN.out; omega)).mono ?_
        rintro e wg1 ⟨rfl, hbg⟩
        have HSg1 := Lib.hid (HSf1.out.calm hbg)
        have HWN : Hid (rd0 ≤ rd1 ∧ rd1 ≤ rd0 + mostI L ∧ rd1 ≤ 4398046511104 ∧ mostI L ≤ 1000000 ∧ 0 ≤ rd0) := by have h1 := HRR1.out; have h2 := HRD2.out; have h3 := HMOST.out; have h4 := HRD1.out; exact ⟨h1.1, h1.2, by omega, by omega, h4.1⟩
        clear hbg x0 x1 y0 y1 hxx hyy HSf1
        obtain ⟨M1, hM⟩ : ∃ M, mostI L = M := ⟨_, rfl⟩
        rw [hM] at HWN ⊢
        clear hM
        go_wp2_with fail
        refine (within_any HSg1.out.mr HWN.out.2.2.2.2 HWN.out.1 HWN.out.2.1 HWN.out.2.2.1 HWN.out.2.2.2.1).mono ?_
        rintro e wh1 ⟨rfl, hbh⟩
        have HSz1 := Lib.hid (HSg1.out.calm hbh)
        clear hbh hzz HSg1 HWN
        go_wp2_with fail
        refine HSz1.out.reads.mono ?_
        rintro e wb2 ⟨rfl, hsb⟩
        have HSb2 := Lib.hid hsb
        clear hsb HSz1
        go_wp2_with fail
        refine (HSb2.out.call fun F hI => HK.out.below kq wb2 hI HTR.out HRD2.out.1 (by have := HRD2.out; omega) HQW.out).mono ?_
        rintro e wc2 ⟨rfl, rd2, hsc, hr0, hr1⟩
        rw [HML.out] at hr1
        have HRR2 : Hid (rd1 ≤ rd2 ∧ rd2 ≤ rd1 + mostI L) := ⟨hr0, hr1⟩
        have HRD3 : Hid (0 ≤ rd2 ∧ rd2 ≤ 1000 * (3 : Int) + 4000 * (y : Int) ∧ rd2 ≤ 1000000) := by have h1 := HRD2.out; have h2 := HMOST.out; have h3 := HY.out; exact ⟨by omega, by omega, by omega⟩
        unfold enR enA
        obtain ⟨X2, hX⟩ : ∃ X, (belowE l kq).elim (0 : Int) (·.key) = X := ⟨_, rfl⟩
        obtain ⟨Y2, hY⟩ : ∃ Y, (belowE l kq).elim (0 : Int) (·.val) = Y := ⟨_, rfl⟩
        obtain ⟨Z2, hZ⟩ : ∃ Z, (belowE l kq).isSome = Z := ⟨_, rfl⟩
        rw [hX, hY, hZ]
        have HF2 : Hid (enA (belowE l kq) = #[.int .i64 X2, .int .i64 Y2] ∧ (belowE l kq).isSome = Z2) := by show _ ∧ _; unfold enA; rw [hX, hY]; exact ⟨rfl, hZ⟩
        have hsp := hsc.perm (bs' := [(gx, Obj.cells #[.int .i64 X1, .int .i64 Y1] 37 (0, 0)), (gy, Obj.cells #[.int .i64 X1, .int .i64 Y1] 37 (0, 0))]) (List.Perm.swap _ _ _)
        obtain ⟨x0, x1, f0, f1⟩ := hsp.two (g := gx) (x := X1) (y := Y1) (t := 37) (by simp)
        have hsd := hsp.set2 (.int .i64 X2) (.int .i64 Y2)
        have HSd2 := Lib.hid hsd
        clear hX hY hZ hsc hsp hsd hr0 hr1 HSb2
        go_upto_region 24 with fail
        generalize (wc2.setCell ⟨gx, 0, none⟩ (.int .i64 X2)).setCell ⟨gx, 1, none⟩ (.int .i64 Y2) = wd2 at HSd2 ⊢
        clear x0 x1 f0 f1
        go_wp2_with fail
        refine (below_any kq (HLI.out (rs' := [_]) HSd2.out) HLL.out (by have := HLEN.out; omega)).mono ?_
        rintro e we2 ⟨rfl, hbe⟩
        rw [HF2.out.1, HF2.out.2]
        have hsp := (HSd2.out.calm hbe).perm (bs' := [(gy, Obj.cells #[.int .i64 X1, .int .i64 Y1] 37 (0, 0)), (gx, Obj.cells #[.int .i64 X2, .int .i64 Y2] 37 (0, 0))]) (List.Perm.swap _ _ _)
        obtain ⟨x0, x1, f0, f1⟩ := hsp.two (g := gy) (x := X1) (y := Y1) (t := 37) (by simp)
        have hsf := hsp.set2 (.int .i64 X2) (.int .i64 Y2)
        have HSf2 := Lib.hid hsf
        clear hsp hsf hbe HSd2
        go_upto_region 25 with fail
        generalize (we2.setCell ⟨gy, 0, none⟩ (.int .i64 X2)).setCell ⟨gy, 1, none⟩ (.int .i64 Y2) = wf2 at HSf2 ⊢
        clear x0 x1 f0 f1
        obtain ⟨x0, x1, -, -⟩ := HSf2.out.two (g := gx) (x := X2) (y := Y2) (t := 37) (by simp)
        obtain ⟨y0, y1, -, -⟩ := HSf2.out.two (g := gy) (x := X2) (y := Y2) (t := 37) (by simp)
        have hxx : (X2 == X2) = true := by simp
        have hyy : (Y2 == Y2) = true := by simp
        have hzz : (Z2 != Z2) = false := by simp
        go_wp2_with fail
        refine (most_any L _ (by have := HLEN.out; omega)).mono ?_
        rintro e wg2 ⟨rfl, hbg⟩
        have HSg2 := Lib.hid (HSf2.out.calm hbg)
        have HWN : Hid (rd1 ≤ rd2 ∧ rd2 ≤ rd1 + mostI L ∧ rd2 ≤ 4398046511104 ∧ mostI L ≤ 1000000 ∧ 0 ≤ rd1) := by have h1 := HRR2.out; have h2 := HRD3.out; have h3 := HMOST.out; have h4 := HRD2.out; exact ⟨h1.1, h1.2, by omega, by omega, h4.1⟩
        clear hbg x0 x1 y0 y1 hxx hyy HSf2
        obtain ⟨M2, hM⟩ : ∃ M, mostI L = M := ⟨_, rfl⟩
        rw [hM] at HWN ⊢
        clear hM
        go_wp2_with fail
        refine (within_any HSg2.out.mr HWN.out.2.2.2.2 HWN.out.1 HWN.out.2.1 HWN.out.2.2.1 HWN.out.2.2.2.1).mono ?_
        rintro e wh2 ⟨rfl, hbh⟩
        have HSz2 := Lib.hid (HSg2.out.calm hbh)
        clear hbh hzz HSg2 HWN
        go_wp2_with fail
        refine HSz2.out.reads.mono ?_
        rintro e wb3 ⟨rfl, hsb⟩
        have HSb3 := Lib.hid hsb
        clear hsb HSz2
        go_wp2_with fail
        refine (HSb3.out.call fun F hI => HK.out.above kq wb3 hI HTR.out HRD3.out.1 (by have := HRD3.out; omega) HQW.out).mono ?_
        rintro e wc3 ⟨rfl, rd3, hsc, hr0, hr1⟩
        rw [HML.out] at hr1
        have HRR3 : Hid (rd2 ≤ rd3 ∧ rd3 ≤ rd2 + mostI L) := ⟨hr0, hr1⟩
        have HRD4 : Hid (0 ≤ rd3 ∧ rd3 ≤ 1000 * (4 : Int) + 4000 * (y : Int) ∧ rd3 ≤ 1000000) := by have h1 := HRD3.out; have h2 := HMOST.out; have h3 := HY.out; exact ⟨by omega, by omega, by omega⟩
        unfold enR enA
        obtain ⟨X3, hX⟩ : ∃ X, (aboveE l kq).elim (0 : Int) (·.key) = X := ⟨_, rfl⟩
        obtain ⟨Y3, hY⟩ : ∃ Y, (aboveE l kq).elim (0 : Int) (·.val) = Y := ⟨_, rfl⟩
        obtain ⟨Z3, hZ⟩ : ∃ Z, (aboveE l kq).isSome = Z := ⟨_, rfl⟩
        rw [hX, hY, hZ]
        have HF3 : Hid (enA (aboveE l kq) = #[.int .i64 X3, .int .i64 Y3] ∧ (aboveE l kq).isSome = Z3) := by show _ ∧ _; unfold enA; rw [hX, hY]; exact ⟨rfl, hZ⟩
        have hsp := hsc.perm (bs' := [(gx, Obj.cells #[.int .i64 X2, .int .i64 Y2] 37 (0, 0)), (gy, Obj.cells #[.int .i64 X2, .int .i64 Y2] 37 (0, 0))]) (List.Perm.swap _ _ _)
        obtain ⟨x0, x1, f0, f1⟩ := hsp.two (g := gx) (x := X2) (y := Y2) (t := 37) (by simp)
        have hsd := hsp.set2 (.int .i64 X3) (.int .i64 Y3)
        have HSd3 := Lib.hid hsd
        clear hX hY hZ hsc hsp hsd hr0 hr1 HSb3
        go_upto_region 29 with fail
        generalize (wc3.setCell ⟨gx, 0, none⟩ (.int .i64 X3)).setCell ⟨gx, 1, none⟩ (.int .i64 Y3) = wd3 at HSd3 ⊢
        clear x0 x1 f0 f1
        go_wp2_with fail
        refine (above_any kq (HLI.out (rs' := [_]) HSd3.out) HLL.out (by have := HLEN.out; omega)).mono ?_
        rintro e we3 ⟨rfl, hbe⟩
        rw [HF3.out.1, HF3.out.2]
        have hsp := (HSd3.out.calm hbe).perm (bs' := [(gy, Obj.cells #[.int .i64 X2, .int .i64 Y2] 37 (0, 0)), (gx, Obj.cells #[.int .i64 X3, .int .i64 Y3] 37 (0, 0))]) (List.Perm.swap _ _ _)
        obtain ⟨x0, x1, f0, f1⟩ := hsp.two (g := gy) (x := X2) (y := Y2) (t := 37) (by simp)
        have hsf := hsp.set2 (.int .i64 X3) (.int .i64 Y3)
        have HSf3 := Lib.hid hsf
        clear hsp hsf hbe HSd3
        go_upto_region 30 with fail
        generalize (we3.setCell ⟨gy, 0, none⟩ (.int .i64 X3)).setCell ⟨gy, 1, none⟩ (.int .i64 Y3) = wf3 at HSf3 ⊢
        clear x0 x1 f0 f1
        obtain ⟨x0, x1, -, -⟩ := HSf3.out.two (g := gx) (x := X3) (y := Y3) (t := 37) (by simp)
        obtain ⟨y0, y1, -, -⟩ := HSf3.out.two (g := gy) (x := X3) (y := Y3) (t := 37) (by simp)
        have hxx : (X3 == X3) = true := by simp
        have hyy : (Y3 == Y3) = true := by simp
        have hzz : (Z3 != Z3) = false := by simp
        go_wp2_with fail
        refine (most_any L _ (by have := HLEN.out; omega)).mono ?_
        rintro e wg3 ⟨rfl, hbg⟩
        have HSg3 := Lib.hid (HSf3.out.calm hbg)
        have HWN : Hid (rd2 ≤ rd3 ∧ rd3 ≤ rd2 + mostI L ∧ rd3 ≤ 4398046511104 ∧ mostI L ≤ 1000000 ∧ 0 ≤ rd2) := by have h1 := HRR3.out; have h2 := HRD4.out; have h3 := HMOST.out; have h4 := HRD3.out; exact ⟨h1.1, h1.2, by omega, by omega, h4.1⟩
        clear hbg x0 x1 y0 y1 hxx hyy HSf3
        obtain ⟨M3, hM⟩ : ∃ M, mostI L = M := ⟨_, rfl⟩
        rw [hM] at HWN ⊢
        clear hM
        go_wp2_with fail
        refine (within_any HSg3.out.mr HWN.out.2.2.2.2 HWN.out.1 HWN.out.2.1 HWN.out.2.2.1 HWN.out.2.2.2.1).mono ?_
        rintro e wh3 ⟨rfl, hbh⟩
        have HSz3 := Lib.hid (HSg3.out.calm hbh)
        clear hbh hzz HSg3 HWN
        go_wp2_with fail
        have HEND : Hid (AskRel4 I w.heap.size w (.pointer (some pa)) A [⟨2, 1, .slice (some ⟨g0, 0, none⟩) 3 3, 3, i64s [key, -9223372036854775808, 9223372036854775807]⟩, ⟨37, 2, .slice a1 L c1, L, ensV l⟩] 3 (.int .i64 ((y : Int) + 1)) wh3) := ⟨y + 1, rd3, by go_num, by have := HLT.out; omega, HRD4.out.1, by have := HRD4.out; omega, HSz3.out.less (List.Sublist.refl _) (by simp)⟩
        have HMEA : Hid (3 - (intOf (.int .i64 ((y : Int) + 1))).toNat < 3 - (intOf (.int .i64 (y : Int))).toNat) := by have := HLT.out; show _ < _; simp [intOf]; omega
        exact ⟨HEND.out, HMEA.out⟩
      · have hyi : ¬ (y : Int) < 3 := by omega
        have HBZ := Lib.hid HSq.out.below
        clear hlt HSq
        go_wp2_with fail
        go_ret
        exact ⟨rfl, HBZ.out⟩
end Go.Proofs.Ytigogohcelgggaa
