/- LookupGets over contracts. -/
import Derived.Test.YtigogohcelgggaaScene
import Derived.Test.YtigogohcelgggaaLkAwake
import Derived.Test.YtigogohcelgggaaSameDump
import Derived.Test.YtigogohcelgggaaSlotsAid
import Derived.Test.YtigogohcelgggaaAuPlay1
import Derived.Maps.AppendAt
import Derived.Deep.RegionHeld3
import Derived.Deep.DeepCutAuto
import Derived.OwnWalk
set_option linter.unusedVariables false
set_option linter.unusedSimpArgs false
namespace Go.Proofs.Ytigogohcelgggaa
open Go.RowKit
theorem sel_first (l : List En) : selE l 0 = l.head? := by
  unfold selE
  rw [if_pos (by decide)]
  cases l <;> rfl
theorem sel_last (l : List En) : selE l ((l.length : Int) - 1) = l.getLast? := by
  unfold selE
  rw [List.getLast?_eq_getElem?]
  cases l with
  | nil => rfl
  | cons x t => rw [if_pos (by simp only [List.length_cons]; omega)]; congr 1; simp only [List.length_cons]; omega
def i64s (l : List Int) : List Value := l.map fun x => .int .i64 x
theorem i64s_len (l : List Int) : (i64s l).length = l.length := by simp [i64s]
theorem i64Info : (Try.prog.info? 2).map (fun i => (i.zero, i.size, i.bytes)) = some (some (.int .i64 0), 1, 8) := by kernel_rfl
theorem own_key (w : World) (v : Value) (t : TypeId) : (w.alloc (.cells #[v] t)).ownsRow w.heap.size t 1 (.slice (some ⟨w.heap.size, 0, none⟩) 1 1) 1 [v] :=
  ⟨rfl, .inr ⟨w.heap.size, 1, #[v], rfl, Nat.le_refl _, heap_alloc_new w _, Nat.le_refl _, by unfold maxLen; omega, rfl, rfl⟩⟩
theorem key_cell {w : World} {B c j : Nat} {g : Nat} {ks : List Int} {k : Int} {n : Nat} (h : w.ownsRow B 2 1 (.slice (some ⟨g, 0, none⟩) n c) n (i64s ks)) (hj : ks[j]? = some k) (hn : ks.length = n) : w.cell? ⟨g, j, none⟩ = some (.int .i64 k) := by
  have hl := (List.getElem?_eq_some_iff.1 hj).1
  rw [h.cellAt j (by omega)]
  simp [i64s, hj]
/-- the keys that are asked for, while they are gathered -/
def KsRel (I : AImpl) (B : Nat) (w0 : World) (p : Value) (A : Ar) (rs : List Row) (bs : List (Nat × Obj)) (x i : Value) (wr : World) : Prop :=
  ∃ (j : Nat) (ks : List Int) (g kc : Nat), i = .int .i64 (j : Int) ∧ j ≤ 130 ∧ 0 < ks.length ∧ ks.length ≤ j + 1 ∧ (∀ k ∈ ks, i64R k) ∧ x = .slice (some ⟨g, 0, none⟩) ks.length kc ∧ Scn I B w0 wr p A 0 (⟨2, 1, .slice (some ⟨g, 0, none⟩) ks.length kc, ks.length, i64s ks⟩ :: rs) bs
def AskRel (I : AImpl) (B : Nat) (w0 : World) (p : Value) (A : Ar) (rs : List Row) (bs : List (Nat × Obj)) (T : Nat) (i : Value) (wr : World) : Prop :=
  ∃ (j : Nat) (rd : Int), i = .int .i64 (j : Int) ∧ j ≤ T ∧ 0 ≤ rd ∧ rd ≤ 1000 * (j : Int) ∧ Scn I B w0 wr p A rd rs bs
set_option maxHeartbeats 8000000 in
set_option maxRecDepth 100000 in
theorem gets_walk (I : AImpl) (K : LkImpl I) {a : Option Addr} {n c : Nat} {raw : List En} {tilt key : Int} {w : World} (hE : EnsAt w a raw) (hn : raw.length = n) (hnm : n ≤ 9223372036854775807) (ht0 : 0 ≤ tilt) (ht1 : tilt < 18446744073709551616) (hkey : i64R key) :
    Calls Try.prog 3 #[.slice a n c, .int .u64 tilt, .int .i64 key] w (Calm w (.bool true)) := by
  have HKEY := Lib.hid hkey
  clear hkey
  have HK := Lib.hid K
  have HWF : Hid (∀ y ∈ listE raw 120, i64R y.key ∧ i64R y.val) := fun y hy => hE.wf y (listE_mem hy)
  have HL := Lib.hid (list_any (c := c) (k := 120) hE hn hnm (by decide))
  have HT : Hid (0 ≤ tilt ∧ tilt < 18446744073709551616) := ⟨ht0, ht1⟩
  have HUP := Lib.hid (listE_up raw 120)
  have HLEN := Lib.hid (listE_len raw 120)
  clear K hE hn hnm ht0 ht1
  go_enter Try.func3, Try.ntmps3
  go_wp2_with fail
  refine HL.out.mono ?_
  rintro e w1 ⟨a1, c1, rfl, hr1, hb1⟩
  have HR1 := Lib.hid hr1
  have HB1 := Lib.hid hb1
  clear hr1 hb1 HL
  generalize listE raw 120 = l at HUP HLEN HR1 HWF ⊢
  obtain ⟨L, hL⟩ : ∃ L, l.length = L := ⟨_, rfl⟩
  rw [hL] at HLEN HR1 ⊢
  have HLL := Lib.hid hL
  have hLi : (L : Int) ≤ 120 := by have := HLEN.out; omega
  have HE1 := Lib.hid (ens_row hL HR1.out HWF.out)
  have HC1 := Lib.hid (row_caps HR1.out)
  clear hL
  go_wp2_with fail
  refine (grow_any I (sp := 1) (m := L + 1) HE1.out HLL.out HC1.out.1 HC1.out.2 rfl (by omega) (by have := HLEN.out; omega) HT.out.1 HT.out.2).mono ?_
  rintro e w2 ⟨p, A, ri, t, F, rfl, hg⟩
  obtain ⟨pa, rfl⟩ := I.ptr hg.is
  have HTR := Lib.hid (hg.planted.tree HUP.out)
  have HPL := Lib.hid hg.planted
  have HS2 := Lib.hid (Scn.init hg HB1.out HR1.out)
  clear hg HR1 HE1 HC1 HT
  have hmost : mostI L ≤ 1000 ∧ 0 ≤ mostI L := by
    have h1 := (xh_spec (n := L) (by have := HLEN.out; omega)).2.1
    unfold mostI
    omega
  have HMOST := Lib.hid hmost
  have HML : Hid (mostI l.length = mostI L) := by show _ = _; rw [HLL.out]
  clear hmost
  go_wp2_with fail
  refine (awake9_any I HK.out w2).mono ?_
  rintro e w3 ⟨rfl, hb3⟩
  have HS3 := Lib.hid (HS2.out.calm hb3)
  clear hb3 HS2
  go_wp2_with fail
  refine HS3.out.dump.mono ?_
  rintro e w4 ⟨da, dc, db, dd, rfl, hs4, hb4⟩
  have HS4 := Lib.hid hs4
  clear hs4 hb4 HS3
  go_upto_region 6 with fail
  have hs5 := HS4.out.box #[.slice da A.σ.cap dc, .slice db A.σ.free.length dd] 33
  generalize w4.alloc (Obj.cells #[.slice da A.σ.cap dc, .slice db A.σ.free.length dd] 33) = w5 at hs5 ⊢
  generalize w4.heap.size = q at hs5 ⊢
  have HS5 := Lib.hid hs5
  clear hs5 HS4
  go_upto_region 7 with fail
  have hs6 := HS5.out.row (below_new7 w5 (.cells #[.int .i64 key] 2)) (own_key w5 (.int .i64 key) 2)
  generalize w5.alloc (.cells #[.int .i64 key] 2) = w6 at hs6 ⊢
  generalize w5.heap.size = g0 at hs6 ⊢
  obtain ⟨i0, ji, jz0, jz1, jz2⟩ := info_parts i64Info
  generalize hrs : [(⟨26, 1, .slice db A.σ.free.length dd, A.σ.free.length, u32s A.σ.free⟩ : Row), ⟨73, 11, .slice da A.σ.cap dc, A.σ.cap, slotsV A⟩, ⟨37, 2, .slice a1 L c1, L, ensV l⟩] = rs at hs6
  generalize hbs : [(q, Obj.cells #[.slice da A.σ.cap dc, .slice db A.σ.free.length dd] 33 (0, 0))] = bs at hs6
  have HRS := Lib.hid hrs
  have HBS := Lib.hid hbs
  have HR0 : Hid (KsRel I w.heap.size w (.pointer (some pa)) A rs bs (.slice (some ⟨g0, 0, none⟩) 1 1) (.int .i64 0) w6) := ⟨0, [key], g0, 1, rfl, by omega, by simp, by simp, fun k hk => by (simp at hk; rw [hk]; exact HKEY.out), rfl, hs6⟩
  have HLI : Hid (∀ {wx : World} {rd : Int} {rs' : List Row}, Scn I w.heap.size w wx (.pointer (some pa)) A rd (rs' ++ rs) bs → EnsAt wx a1 l) := fun {wx rd rs'} h => ens_row HLL.out (h.rows ⟨37, 2, .slice a1 L c1, L, ensV l⟩ (by rw [← HRS.out]; simp)) HWF.out
  clear hs6 hrs hbs HS5
  go_wp2_with fail
  go_loopw [12, 13] (fun x i wr => KsRel I w.heap.size w (.pointer (some pa)) A rs bs x i wr) (fun _ i _ => L - (intOf i).toNat)
  case atStart => exact HR0.out
  case round =>
    clear HR0
    obtain ⟨j, ks, g, kc, rfl, hj, hk0, hkl, hkw, rfl, hS⟩ := hrel
    have HS := Lib.hid hS
    have HKS : Hid (j ≤ 130 ∧ 0 < ks.length ∧ ks.length ≤ j + 1) := ⟨hj, hk0, hkl⟩
    have HKW := Lib.hid hkw
    have hj0 : (0 : Int) ≤ (j : Int) := by omega
    clear hS hj hk0 hkl hkw
    by_cases hlt : j < L
    · have hji : (j : Int) < (L : Int) := by omega
      obtain ⟨e, he⟩ : ∃ e, l[j]? = some e := ⟨_, List.getElem?_eq_getElem (by have := HLL.out; omega)⟩
      have HEW := Lib.hid (HWF.out e (List.mem_of_getElem? he))
      obtain ⟨b, off, rfl, hb, c0, -⟩ := ((HLI.out (rs' := [_]) HS.out)).at he
      have HLT := Lib.hid hlt
      obtain ⟨N, hN⟩ : ∃ N, ks.length = N := ⟨_, rfl⟩
      have HN := Lib.hid hN
      have hrow := (HS.out.calm (below_new7 wr (.cells #[.int .i64 e.key] 2))).rows ⟨2, 1, .slice (some ⟨g, 0, none⟩) ks.length kc, ks.length, i64s ks⟩ (by simp)
      have hB := (HS.out.calm (below_new7 wr (.cells #[.int .i64 e.key] 2))).mr.hB
      rw [hN] at hrow ⊢
      have hw7 : IntKind.i64.wrap ((j : Int) + 7) = ((j + 7 : Nat) : Int) := by rw [IntKind.wrap_i64]; omega
      clear he hb hN hlt
      go_wp2_with (at_builtin; refine wpList_append_own_at _ rfl (.tmp 50) (.tmp 56) 35 rfl w.heap.size 2 i0 (.int .i64 0) 1 8 Try.underlying35 ji jz0 jz1 jz2 rfl (by decide) _ N (i64s ks) rfl hrow ⟨wr.heap.size, 0, none⟩ 1 1 [.int .i64 e.key] rfl rfl (cell_one_new _ _ _) (one_cell1 _ _) (by have := HKS.out; have := HN.out; unfold maxLen; omega) (by have := HKS.out; have := HN.out; omega) hB ?_; intro v6 w6 ho6 hg6 _ hv6)
      obtain ⟨va, vc, rfl⟩ := row_val ho6
      obtain ⟨g', rfl⟩ := row_head ho6 (by omega)
      have hs7 := HS.out.calm (below_new7 wr (.cells #[.int .i64 e.key] 2))
      rw [HN.out] at hs7
      have hs8 := hs7.grew (v' := .slice (some ⟨g', 0, none⟩) (N + 1) vc) (n' := N + 1) (xs' := i64s (ks ++ [e.key])) (by rw [show i64s (ks ++ [e.key]) = i64s ks ++ [.int .i64 e.key] by simp [i64s]]; exact ho6) hg6 hv6
      have hlen : (ks ++ [e.key]).length = N + 1 := by rw [List.length_append, HN.out]; rfl
      exact ⟨⟨j + 7, ks ++ [e.key], g', vc, by go_num, by have := HLT.out; have := HLEN.out; omega, by omega, by have := HKS.out; have := HN.out; omega, fun k hk => by (rcases List.mem_append.1 hk with hk | hk; exact HKW.out k hk; simp at hk; rw [hk]; exact HEW.out.1), by rw [hlen], by rw [hlen]; exact hs8⟩, by have := HLT.out; simp [intOf]; omega⟩
    · have hji : ¬ (j : Int) < (L : Int) := by omega
      obtain ⟨N, hN⟩ : ∃ N, ks.length = N := ⟨_, rfl⟩
      have hs9 := HS.out
      rw [hN] at hs9 ⊢
      have HN : Hid (ks.length = N ∧ N ≤ 131) := ⟨hN, by have := HKS.out; omega⟩
      have hNi : (N : Int) ≤ 131 := by have := HN.out; omega
      have HR9 : Hid (AskRel I w.heap.size w (.pointer (some pa)) A (⟨2, 1, .slice (some ⟨g, 0, none⟩) N kc, N, i64s ks⟩ :: rs) bs N (.int .i64 0) wr) := ⟨0, 0, rfl, Nat.zero_le _, by decide, by decide, hs9⟩
      clear hN hs9 HS hlt
      go_wp2_with fail
      go_loopw [14] (fun i wr => AskRel I w.heap.size w (.pointer (some pa)) A (⟨2, 1, .slice (some ⟨g, 0, none⟩) N kc, N, i64s ks⟩ :: rs) bs N i wr) (fun i _ => N - (intOf i).toNat)
      case atStart => exact HR9.out
      case round =>
        clear HR9
        obtain ⟨y, rd, rfl, hy, hrd0, hrd1, hS⟩ := hrel
        have HS := Lib.hid hS
        have HRD : Hid (0 ≤ rd ∧ rd ≤ 1000 * (y : Int) ∧ y ≤ N) := ⟨hrd0, hrd1, hy⟩
        have hy0 : (0 : Int) ≤ (y : Int) := by omega
        clear hS hy hrd0 hrd1
        by_cases hlt : y < N
        · have hyi : (y : Int) < (N : Int) := by omega
          obtain ⟨kq, hkq⟩ : ∃ kq, ks[y]? = some kq := ⟨_, List.getElem?_eq_getElem (by have := HN.out; omega)⟩
          have HQ := Lib.hid hkq
          have HQW := Lib.hid (HKW.out kq (List.mem_of_getElem? hkq))
          have HLT := Lib.hid hlt
          clear hkq hlt
          go_wp2_with fail
          refine HS.out.reads.mono ?_
          rintro e w7 ⟨rfl, hs7⟩
          have HS7 := Lib.hid hs7
          have c7 := key_cell (hs7.rows ⟨2, 1, .slice (some ⟨g, 0, none⟩) N kc, N, i64s ks⟩ (by simp)) HQ.out HN.out.1
          clear hs7 HS
          go_wp2_with fail
          refine (HS7.out.call fun F hI => HK.out.get kq w7 hI HTR.out HRD.out.1 (by have := HRD.out; have := HN.out; omega) HQW.out).mono ?_
          rintro e w8 ⟨rfl, rd8, hs8, h80, h81⟩
          rw [HML.out] at h81
          have HS8 := Lib.hid hs8
          have HRD8 : Hid (rd ≤ rd8 ∧ rd8 ≤ rd + mostI L) := ⟨h80, h81⟩
          have c8 := key_cell (hs8.rows ⟨2, 1, .slice (some ⟨g, 0, none⟩) N kc, N, i64s ks⟩ (by simp)) HQ.out HN.out.1
          clear hs8 h80 h81 HS7 c7
          obtain ⟨GV, hGV⟩ : ∃ GV, (getE l kq).elim (0 : Int) (·.val) = GV := ⟨_, rfl⟩
          obtain ⟨GB, hGB⟩ : ∃ GB, (getE l kq).isSome = GB := ⟨_, rfl⟩
          rw [hGV, hGB]
          have HGV := Lib.hid hGV
          have HGB := Lib.hid hGB
          clear hGV hGB
          go_wp2_with fail
          refine (get_any kq (HLI.out (rs' := [_]) HS8.out) HLL.out (by have := HLEN.out; omega)).mono ?_
          rintro e w9 ⟨rfl, rfl⟩
          rw [HGV.out, HGB.out]
          have hvv : (GV != GV) = false := by simp
          have hbb : (GB != GB) = false := by simp
          go_wp2_with fail
          refine (most_any L _ (by have := HLEN.out; omega)).mono ?_
          rintro e w10 ⟨rfl, hb10⟩
          have HS10 := Lib.hid (HS8.out.calm hb10)
          clear hb10 c8
          generalize hM : mostI L = M at *
          go_wp2_with fail
          refine (within_any HS10.out.mr HRD.out.1 HRD8.out.1 (by have := HRD8.out; omega) (by have := HRD8.out; have := HRD.out; have := HN.out; have := HMOST.out; omega) (by have := HMOST.out; omega)).mono ?_
          rintro e w11 ⟨rfl, hb11⟩
          have HS11 := Lib.hid (HS10.out.calm hb11)
          clear hb11
          go_wp2_with fail
          exact ⟨⟨y + 1, rd8, by go_num, by have := HLT.out; omega, by have := HRD.out; have := HRD8.out; omega, by have := HRD.out; have := HRD8.out; have := HMOST.out; omega, HS11.out⟩, by have := HLT.out; simp [intOf]; omega⟩
        · have hyi : ¬ (y : Int) < (N : Int) := by omega
          have HRDN : Hid (0 ≤ rd ∧ rd ≤ 1000000) := by have h1 := HRD.out; have h2 := HN.out; exact ⟨h1.1, by omega⟩
          have HFC : Hid (A.σ.cap ≤ 65536 ∧ A.σ.free.length ≤ 65536) := by have h1 := HPL.out.inv.ok.len; have h2 := HPL.out.inv.ok.cap2; exact ⟨h2, by omega⟩
          have hs7 := HS.out.less (rs' := rs) (bs' := bs) (by simp) (List.Sublist.refl _)
          have HS7 := Lib.hid hs7
          have HLJ : Hid (∀ {wx : World} {rd : Int} {bs' : List (Nat × Obj)}, Scn I w.heap.size w wx (.pointer (some pa)) A rd rs bs' → EnsAt wx a1 l) := fun {wx rd bs'} h => ens_row HLL.out (h.rows ⟨37, 2, .slice a1 L c1, L, ensV l⟩ (by rw [← HRS.out]; simp)) HWF.out
          clear hlt hs7 HS HLI HRD HKS HKW HKEY
          go_wp2_with fail
          refine HS7.out.reads.mono ?_
          rintro e w8 ⟨rfl, hs8⟩
          have HS8 := Lib.hid hs8
          clear hs8 HS7
          go_wp2_with fail
          refine (HS8.out.call fun F hI => HK.out.first w8 hI HTR.out HRDN.out.1 (by have := HRDN.out; omega) (fun y hy => (HWF.out y hy).1)).mono ?_
          rintro e w9 ⟨rfl, rd9, hs9, h90, h91⟩
          rw [HML.out] at h91
          have HS9 := Lib.hid hs9
          have HRD9 : Hid (rd ≤ rd9 ∧ rd9 ≤ rd + mostI L) := ⟨h90, h91⟩
          clear hs9 h90 h91 HS8
          unfold enR enA
          obtain ⟨X, hX⟩ : ∃ X, (l.head?).elim (0 : Int) (·.key) = X := ⟨_, rfl⟩
          obtain ⟨Y, hY⟩ : ∃ Y, (l.head?).elim (0 : Int) (·.val) = Y := ⟨_, rfl⟩
          obtain ⟨Z, hZ⟩ : ∃ Z, (l.head?).isSome = Z := ⟨_, rfl⟩
          rw [hX, hY, hZ]
          have HF1 : Hid (enA (selE l 0) = #[.int .i64 X, .int .i64 Y] ∧ (selE l 0).isSome = Z) := by rw [sel_first]; unfold enA; rw [hX, hY]; exact ⟨rfl, hZ⟩
          clear hX hY hZ
          go_upto_region 21 with fail
          have hs10 := HS9.out.box #[.int .i64 X, .int .i64 Y] 37
          generalize w9.alloc (Obj.cells #[.int .i64 X, .int .i64 Y] 37) = w10 at hs10 ⊢
          generalize w9.heap.size = gx at hs10 ⊢
          have HS10 := Lib.hid hs10
          clear hs10 HS9
          go_wp2_with fail
          refine (select_any 0 (HLJ.out HS10.out) HLL.out (by have := HLEN.out; omega) (by decide)).mono ?_
          rintro e w11 ⟨rfl, hb11⟩
          rw [HF1.out.1, HF1.out.2]
          have HS11 := Lib.hid (HS10.out.calm hb11)
          clear hb11 HS10
          go_upto_region 22 with fail
          have hs12 := HS11.out.box #[.int .i64 X, .int .i64 Y] 37
          generalize w11.alloc (Obj.cells #[.int .i64 X, .int .i64 Y] 37) = w12 at hs12 ⊢
          generalize w11.heap.size = gy at hs12 ⊢
          have HS12 := Lib.hid hs12
          obtain ⟨x0, x1, -, -⟩ := hs12.two (g := gx) (x := X) (y := Y) (t := 37) (by simp)
          obtain ⟨y0, y1, -, -⟩ := hs12.two (g := gy) (x := X) (y := Y) (t := 37) (by simp)
          have hxx : (X == X) = true := by simp
          have hyy : (Y == Y) = true := by simp
          have hzz : (Z != Z) = false := by simp
          clear hs12 HS11
          go_wp2_with fail
          refine (most_any L w12 (by have := HLEN.out; omega)).mono ?_
          rintro e w13 ⟨rfl, hb13⟩
          have HS13 := Lib.hid (HS12.out.calm hb13)
          clear hb13 x0 x1 y0 y1 HS12
          generalize hM : mostI L = M at HMOST HML HRD9 ⊢
          go_wp2_with fail
          refine (within_any HS13.out.mr HRDN.out.1 HRD9.out.1 (by have := HRD9.out; omega) (by have := HRD9.out; have := HRDN.out; have := HMOST.out; omega) (by have := HMOST.out; omega)).mono ?_
          rintro e w14 ⟨rfl, hb14⟩
          have HS14 := Lib.hid (HS13.out.calm hb14)
          clear hb14 HS13
          go_wp2_with fail
          refine HS14.out.reads.mono ?_
          rintro e w15 ⟨rfl, hs15⟩
          have HS15 := Lib.hid hs15
          clear hs15 HS14
          go_wp2_with fail
          refine (HS15.out.call fun F hI => HK.out.last w15 hI HTR.out (by have := HRDN.out; have := HRD9.out; omega) (by have := HRDN.out; have := HRD9.out; have := HMOST.out; omega) (fun y hy => (HWF.out y hy).1)).mono ?_
          rintro e w16 ⟨rfl, rd16, hs16, h160, h161⟩
          rw [HML.out] at h161
          have HRD16 : Hid (rd9 ≤ rd16 ∧ rd16 ≤ rd9 + M) := ⟨h160, h161⟩
          unfold enR enA
          obtain ⟨X2, hX⟩ : ∃ X, (l.getLast?).elim (0 : Int) (·.key) = X := ⟨_, rfl⟩
          obtain ⟨Y2, hY⟩ : ∃ Y, (l.getLast?).elim (0 : Int) (·.val) = Y := ⟨_, rfl⟩
          obtain ⟨Z2, hZ⟩ : ∃ Z, (l.getLast?).isSome = Z := ⟨_, rfl⟩
          rw [hX, hY, hZ]
          have HF2 : Hid (enA (selE l ((L : Int) - 1)) = #[.int .i64 X2, .int .i64 Y2] ∧ (selE l ((L : Int) - 1)).isSome = Z2) := by
            have h := sel_last l
            rw [HLL.out] at h
            rw [h]; unfold enA; rw [hX, hY]; exact ⟨rfl, hZ⟩
          have hs17 := (hs16.perm (bs' := (gx, .cells #[.int .i64 X, .int .i64 Y] 37 (0, 0)) :: (gy, .cells #[.int .i64 X, .int .i64 Y] 37 (0, 0)) :: bs) (List.Perm.swap _ _ _))
          obtain ⟨x0, x1, f0, f1⟩ := hs17.two (g := gx) (x := X) (y := Y) (t := 37) (by simp)
          have hs18 := hs17.set2 (.int .i64 X2) (.int .i64 Y2)
          have HS18 := Lib.hid hs18
          clear hX hY hZ hs16 hs17 hs18 h160 h161 HS15
          go_upto_region 26 with fail
          generalize (w16.setCell ⟨gx, 0, none⟩ (.int .i64 X2)).setCell ⟨gx, 1, none⟩ (.int .i64 Y2) = w17 at HS18 ⊢
          have hwl : IntKind.i64.wrap ((L : Int) - 1) = (L : Int) - 1 := by rw [IntKind.wrap_i64]; omega
          clear x0 x1 f0 f1
          go_wp2_with fail
          refine (select_any ((L : Int) - 1) (HLJ.out HS18.out) HLL.out (by have := HLEN.out; omega) ⟨by omega, by omega⟩).mono ?_
          rintro e w18 ⟨rfl, hb18⟩
          rw [HF2.out.1, HF2.out.2]
          have hs19 := (HS18.out.calm hb18).perm (bs' := (gy, .cells #[.int .i64 X, .int .i64 Y] 37 (0, 0)) :: (gx, .cells #[.int .i64 X2, .int .i64 Y2] 37 (0, 0)) :: bs) (List.Perm.swap _ _ _)
          obtain ⟨x0, x1, f0, f1⟩ := hs19.two (g := gy) (x := X) (y := Y) (t := 37) (by simp)
          have hs20 := hs19.set2 (.int .i64 X2) (.int .i64 Y2)
          have HS20 := Lib.hid hs20
          clear hs19 hs20 hb18 HS18
          go_upto_region 27 with fail
          generalize (w18.setCell ⟨gy, 0, none⟩ (.int .i64 X2)).setCell ⟨gy, 1, none⟩ (.int .i64 Y2) = w19 at HS20 ⊢
          clear x0 x1 f0 f1
          have HCEL : Hid (∀ {wx : World} {rd : Int}, Scn I w.heap.size w wx (.pointer (some pa)) A rd rs ((gy, .cells #[.int .i64 X2, .int .i64 Y2] 37 (0, 0)) :: (gx, .cells #[.int .i64 X2, .int .i64 Y2] 37 (0, 0)) :: bs) →
              wx.cell? ⟨gx, 0, none⟩ = some (.int .i64 X2) ∧ wx.cell? ⟨gx, 1, none⟩ = some (.int .i64 Y2) ∧ wx.cell? ⟨gy, 0, none⟩ = some (.int .i64 X2) ∧ wx.cell? ⟨gy, 1, none⟩ = some (.int .i64 Y2) ∧ wx.cell? ⟨q, 0, none⟩ = some (.slice da A.σ.cap dc) ∧ wx.cell? ⟨q, 1, none⟩ = some (.slice db A.σ.free.length dd)) := fun {wx rd} h => by
            obtain ⟨x0, x1, -, -⟩ := h.two (g := gx) (x := X2) (y := Y2) (t := 37) (by simp)
            obtain ⟨y0, y1, -, -⟩ := h.two (g := gy) (x := X2) (y := Y2) (t := 37) (by simp)
            have hq := (h.boxes (q, Obj.cells #[.slice da A.σ.cap dc, .slice db A.σ.free.length dd] 33 (0, 0)) (by rw [← HBS.out]; simp)).2
            obtain ⟨q0, q1⟩ := two_cells hq
            exact ⟨x0, x1, y0, y1, q0, q1⟩
          have hSd := HS20.out.calm (Below.refl _ _).drew
          obtain ⟨x0, x1, y0, y1, q0, q1⟩ := HCEL.out hSd
          have hxx2 : (X2 == X2) = true := by simp
          have hyy2 : (Y2 == Y2) = true := by simp
          have hzz2 : (Z2 == Z2) = true := by simp
          have HMM := Lib.hid hM
          have HWI : Hid (0 ≤ rd9 ∧ rd9 ≤ rd16 ∧ rd16 ≤ rd9 + M ∧ rd16 ≤ 4398046511104 ∧ M ≤ 1000000) := by have h1 := HRD9.out; have h2 := HRD16.out; have h3 := HRDN.out; have h4 := HMOST.out; exact ⟨by omega, by omega, by omega, by omega, by omega⟩
          clear hM hxx hyy hzz hwl
          go_region_held3 (fun w' => w'.cell? ⟨gx, 0, none⟩ = some (.int .i64 X2) ∧ w'.cell? ⟨gx, 1, none⟩ = some (.int .i64 Y2) ∧ w'.cell? ⟨gy, 0, none⟩ = some (.int .i64 X2) ∧ w'.cell? ⟨gy, 1, none⟩ = some (.int .i64 Y2) ∧ w'.cell? ⟨q, 0, none⟩ = some (.slice da A.σ.cap dc) ∧ w'.cell? ⟨q, 1, none⟩ = some (.slice db A.σ.free.length dd)) (go_keep) (first
            | (go_at_call 15; refine (most_any L _ (by have := HLEN.out; omega)).mono ?_; rintro e wA ⟨rfl, hbA⟩; rw [HMM.out]; have hSA := hSd.calm hbA; obtain ⟨x0, x1, y0, y1, q0, q1⟩ := HCEL.out hSA)
            | (go_at_call 14; refine (within_any hSA.mr HWI.out.1 HWI.out.2.1 HWI.out.2.2.1 HWI.out.2.2.2.1 HWI.out.2.2.2.2).mono ?_; rintro e wB ⟨rfl, hbB⟩; have hSB := hSA.calm hbB; obtain ⟨x0, x1, y0, y1, q0, q1⟩ := HCEL.out hSB)
            | (go_at_call 10; refine hSB.dump.mono ?_; rintro e wC ⟨ea, ec, eb, ed, rfl, hsC, hbC⟩; have hSC := hSB.calm hbC; obtain ⟨x0, x1, y0, y1, q0, q1⟩ := HCEL.out hSC)
            | (go_at_call 19; refine (same_dump A.σ.free rfl (slots_at HPL.out.inv (hsC.rows ⟨73, 11, .slice ea A.σ.cap ec, A.σ.cap, slotsV A⟩ (by simp))) (slots_at HPL.out.inv (hSC.rows ⟨73, 11, .slice da A.σ.cap dc, A.σ.cap, slotsV A⟩ (by rw [← HRS.out]; simp))) (hsC.rows ⟨26, 1, .slice eb A.σ.free.length ed, A.σ.free.length, u32s A.σ.free⟩ (by simp)) (hSC.rows ⟨26, 1, .slice db A.σ.free.length dd, A.σ.free.length, u32s A.σ.free⟩ (by rw [← HRS.out]; simp)) HFC.out.1 HFC.out.2).mono ?_; rintro e wD ⟨rfl, hbD⟩; have hSD := hSC.calm hbD; obtain ⟨x0, x1, y0, y1, q0, q1⟩ := HCEL.out hSD))
          all_goals (go_wp2_with fail; go_ret; exact ⟨rfl, hSD.below⟩)
end Go.Proofs.Ytigogohcelgggaa
