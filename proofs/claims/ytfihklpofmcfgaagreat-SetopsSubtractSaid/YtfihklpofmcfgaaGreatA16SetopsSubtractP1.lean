/- Of the proof of A16SetopsSubtractP: SetPl, RefSet, LawStSub. -/
import Derived.Test.YtfihklpofmcfgaaGreatA1618
import Derived.Deep.RegionHeld3
import Derived.Deep.QuietTactic
import Derived.Deep.DeepCutAuto
set_option linter.unusedVariables false
namespace Go.Proofs.YtfihklpofmcfgaaGreat
theorem subE_take {l m : List En} {j : Nat} {e : En} (h : l[j]? = some e) : subE (l.take (j + 1)) m = subE (l.take j) m ++ (if (getE m e.key).isNone then [e] else []) := filt_succ h _
theorem subE_len (l m : List En) : (subE l m).length ≤ l.length := List.length_filter_le _ _
theorem subE_wf {l : List En} (m : List En) (hl : ∀ y ∈ l, i64R y.key ∧ i64R y.val) : ∀ y ∈ subE l m, i64R y.key ∧ i64R y.val := fun y hy => hl y (List.mem_filter.1 hy).1
theorem excE_len (l m : List En) : (excE l m).length ≤ l.length + m.length := by
  have h1 := unionE_len (subE l m) (subE m l) 1
  have h2 := subE_len l m
  have h3 := subE_len m l
  unfold excE
  omega
end Go.Proofs.YtfihklpofmcfgaaGreat
set_option linter.unusedSimpArgs false
namespace Go.Proofs.YtfihklpofmcfgaaGreat
open Go.RowKit
set_option maxHeartbeats 2000000 in
set_option maxRecDepth 100000 in
theorem subtract_any {w : World} {a b : Option Addr} {n c k d : Nat} {l m : List En} (h : EnsAt w a l) (hn : l.length = n) (hl : n ≤ 100000) (h' : EnsAt w b m) (hk : m.length = k) (hm : k ≤ 100000) :
    Calls Tryz.prog 25 #[.slice a n c, .slice b k d] w (MadeEns w (subE l m)) := by
  have HE := Lib.hid h
  have HE' := Lib.hid h'
  have HN : Hid (l.length = n ∧ n ≤ 100000 ∧ m.length = k ∧ k ≤ 100000) := ⟨hn, hl, hk, hm⟩
  have hni : (n : Int) ≤ 100000 := by omega
  have HLENB : Hid (∀ j, (subE (l.take j) m).length ≤ 100000000) := fun j => by
    have h1 := subE_len (l.take j) m
    have h2 := List.length_take_le' j l
    omega
  have HS : Hid (∀ j e, l[j]? = some e → subE (l.take (j + 1)) m = subE (l.take j) m ++ (if (getE m e.key).isNone then [e] else [])) := fun j e he => subE_take he
  have HR0 := Lib.hid (SubRel.start w (fun j => subE (l.take j) m) n (by simp [subE]))
  clear h hn hl h' hk hm
  go_enter Tryz.func25, Tryz.ntmps25
  go_wp2_with fail
  go_loopw [5, 6] (fun x i wr => SubRel w (fun j => subE (l.take j) m) n x i wr) (fun _ i _ => n - (intOf i).toNat)
  case atStart => exact HR0.out
  case round =>
    clear HR0
    obtain ⟨j, rfl, hj, hst⟩ := hrel
    replace hst : ESt w.heap.size w (subE (l.take j) m) _ wr := hst
    have HST := Lib.hid hst
    have hj0 : (0 : Int) ≤ (j : Int) := by omega
    obtain ⟨xa, xc, rfl⟩ := hst.val
    clear hst
    by_cases hlt : j < n
    · have hji : (j : Int) < (n : Int) := by omega
      obtain ⟨e, he⟩ : ∃ e, l[j]? = some e := ⟨_, List.getElem?_eq_getElem (by have := HN.out; omega)⟩
      obtain ⟨g, off, rfl, hb, c0, c1⟩ := (HE.out.below HST.out.below).at he
      have hs := HS.out j e he
      have HX := Lib.hid hs
      have HLT := Lib.hid hlt
      have HGET := Lib.hid (get_any (c := d) e.key (HE'.out.below HST.out.below) HN.out.2.2.1 (by have := HN.out; omega))
      clear hs he hb hlt hj
      go_wp2_with fail
      refine HGET.out.mono ?_
      rintro e3 w3 ⟨rfl, rfl⟩
      clear HGET
      cases hgt : getE m e.key with
      | none =>
        have HY : Hid (subE (l.take (j + 1)) m = subE (l.take j) m ++ [e]) := by show _ = _; rw [HX.out, hgt]; rfl
        clear hgt
        go_wp2_with (at_builtin; refine wpList_append_en rfl (.tmp 27) (.tmp 32) rfl (HST.out.from (below_newL _ _) rfl) rfl rfl e w3.heap.size rfl (cell_newE _ _ _) (HLENB.out j) ?_; intro v5 w5 hc5)
        exact ⟨⟨j + 1, by go_num, by have := HLT.out; omega, by show ESt _ _ (subE (l.take (j + 1)) m) _ _; rw [HY.out]; exact hc5⟩, by have := HLT.out; simp [intOf]; omega⟩
      | some x =>
        have HY : Hid (subE (l.take (j + 1)) m = subE (l.take j) m) := by show _ = _; rw [HX.out, hgt]; simp
        clear hgt
        go_wp2_with fail
        exact ⟨⟨j + 1, by go_num, by have := HLT.out; omega, by show ESt _ _ (subE (l.take (j + 1)) m) _ _; rw [HY.out]; exact HST.out⟩, by have := HLT.out; simp [intOf]; omega⟩
    · have hji : ¬ (j : Int) < (n : Int) := by omega
      have HK : Hid (subE (l.take j) m = subE l m) := by show _ = _; rw [List.take_of_length_le (by have := HN.out; omega)]
      clear hj hlt
      go_wp2_with fail
      go_ret
      rw [← HK.out]
      first
        | exact HST.out.made
        | (have := HST.out.made; simp only [List.length_take] at this; exact this)
set_option maxHeartbeats 2000000 in
set_option maxRecDepth 100000 in
theorem exclusive_any {w : World} {a b : Option Addr} {n c k d : Nat} {l m : List En} (h : EnsAt w a l) (hn : l.length = n) (hl : n ≤ 50000) (h' : EnsAt w b m) (hk : m.length = k) (hm : k ≤ 50000) :
    Calls Tryz.prog 23 #[.slice a n c, .slice b k d] w (EnsRet w (excE l m)) := by
  have HE := Lib.hid h
  have HE' := Lib.hid h'
  have HW : Hid ((∀ y ∈ l, i64R y.key ∧ i64R y.val) ∧ ∀ y ∈ m, i64R y.key ∧ i64R y.val) := ⟨h.wf, h'.wf⟩
  have HN : Hid (l.length = n ∧ n ≤ 50000 ∧ m.length = k ∧ k ≤ 50000) := ⟨hn, hl, hk, hm⟩
  clear h hn hl h' hk hm
  obtain ⟨P, hP⟩ : ∃ P, (subE l m).length = P := ⟨_, rfl⟩
  obtain ⟨Q, hQ⟩ : ∃ Q, (subE m l).length = Q := ⟨_, rfl⟩
  have HPQ : Hid ((subE l m).length = P ∧ (subE m l).length = Q ∧ P ≤ 50000 ∧ Q ≤ 50000) := ⟨hP, hQ, by have := subE_len l m; have := HN.out; omega, by have := subE_len m l; have := HN.out; omega⟩
  clear hP hQ
  go_enter Tryz.func23, Tryz.ntmps23
  go_wp2_with fail
  refine (subtract_any HE.out HN.out.1 (by have := HN.out; omega) HE'.out HN.out.2.2.1 (by have := HN.out; omega)).mono ?_
  rintro e1 w1 hm1
  obtain ⟨a1, c1, rfl, hen1, hb1⟩ := made_ens hm1 (subE_wf m HW.out.1) HPQ.out.1
  have HEN1 := Lib.hid hen1
  have HB1 := Lib.hid hb1
  clear hm1 hen1 hb1
  go_wp2_with fail
  refine (subtract_any (HE'.out.below HB1.out) HN.out.2.2.1 (by have := HN.out; omega) (HE.out.below HB1.out) HN.out.1 (by have := HN.out; omega)).mono ?_
  rintro e2 w2 hm2
  obtain ⟨a2, c2, rfl, hen2, hb2⟩ := made_ens hm2 (subE_wf l HW.out.2) HPQ.out.2.1
  have HEN2 := Lib.hid hen2
  have HB2 := Lib.hid hb2
  clear hm2 hen2 hb2
  go_wp2_with fail
  refine (union_any 1 (HEN1.out.below HB2.out) HPQ.out.1 (by have := HPQ.out; omega) HEN2.out HPQ.out.2.1 (by have := HPQ.out; omega)).mono ?_
  rintro e3 w3 ⟨a3, c3, rfl, hen3, hb3⟩
  have HF : Hid (EnsAt w3 a3 (excE l m) ∧ Below w.heap.size w w3) := ⟨hen3, HB1.out.trans ((HB2.out.trans (hb3.mono HB2.out.size)).mono HB1.out.size)⟩
  clear hen3 hb3
  obtain ⟨LN, hLN⟩ : ∃ n, (unionE (subE l m) (subE m l) 1).length = n := ⟨_, rfl⟩
  rw [hLN]
  have HLN := Lib.hid hLN
  clear hLN
  go_wp2_with fail
  go_ret
  exact ⟨a3, c3, by show _ = Ending.returned (.slice a3 (unionE (subE l m) (subE m l) 1).length c3); rw [HLN.out]; rfl, HF.out.1, HF.out.2⟩
theorem take_d16 {P : Program} {ops : Array Oper} {Q : Exit → Act → World → Prop} {md : Region.Mode} {S : World → Prop} {i : Nat} {oi : Oper} {v : Value} {fuel : Nat} {listed : Array Bool} {a : Act} {w : World} (d : Option Tmp) (hi : ops[i]? = some oi)
    (hs : Region.noSelect ops = true) (hf : Region.free md ops listed i = true) (hr : (Region.ready md ops listed).contains i = true)
    (hQ : ∀ c a w, Q (.panic c) (a.put oi.dst v) w → Q (.panic c) a w) (hy : YieldsIf P ops S oi v a) (hS : S w) (hd : oi.dst = d)
    (h : wpAnyH P md ops Q S fuel (listed.setIfInBounds i true) (a.put d v) w) : wpAnyH P md ops Q S (fuel + 1) listed a w :=
  wpAnyH_take hi hs hf hr hQ hy hS (by rw [hd]; exact h)
theorem take_d16k {P : Program} {ops : Array Oper} {Q : Exit → Act → World → Prop} {md : Region.Mode} {S : World → Prop} {oi : Oper} {v : Value} {fuel : Nat} {listed : Array Bool} {a : Act} {w : World} (i : Nat) (d : Tmp) (hi : ops[i]? = some oi)
    (hc : (Region.noSelect ops && Region.free md ops listed i && (Region.ready md ops listed).contains i && (oi.dst == some d)) = true)
    (hy : YieldsIf P ops S oi v a) (hS : S w) (h : wpAnyH P md ops Q S fuel (listed.setIfInBounds i true) (a.put (some d) v) w) (hQ : ∀ c a w, Q (.panic c) (a.put oi.dst v) w → Q (.panic c) a w := by exact fun _ _ _ h => h) : wpAnyH P md ops Q S (fuel + 1) listed a w := by
  simp only [Bool.and_eq_true] at hc
  obtain ⟨⟨⟨h1, h2⟩, h3⟩, h5⟩ := hc
  exact take_d16 (some d) hi h1 h2 h3 hQ hy hS (by simpa using h5) h
set_option maxHeartbeats 16000000 in
set_option maxRecDepth 100000 in
theorem subex_walk (I : AImpl) (hchk : CheckSpec) (K : StImpl I) (KU : UpdImpl I) {a b : Option Addr} {n c k d : Nat} {raw other : List En} {tilt free : Int} {dv : Bool} {ex : Bool} {w : World} (hE : EnsAt w a raw) (hn : raw.length = n) (hnm : n ≤ 9223372036854775807) (hE' : EnsAt w b other) (hk : other.length = k) (hkm : k ≤ 9223372036854775807) (ht0 : 0 ≤ tilt) (ht1 : tilt < 18446744073709551616) (hf0 : 0 ≤ free) (hf1 : free < 65536) :
    Calls Tryz.prog 5 #[.slice a n c, .slice b k d, .int .u64 tilt, .bool dv, .bool ex, .int .u16 free] w (Calm w (.bool true)) := by
  have HK := Lib.hid K
  have HCHK := Lib.hid hchk
  have HPA := Lib.hid (pair16_any I KU (c := c) (d := d) (dv := dv) hE hn hnm hE' hk hkm ht0 ht1 hf0 hf1)
  clear K KU hchk hE hn hnm hE' hk hkm ht0 ht1 hf0 hf1 
  go_enter Tryz.func5, Tryz.ntmps5
  go_wp2_with fail
  refine HPA.out.mono ?_
  rintro e w1 ⟨p, A, x, y, tx, ty, l, m, rd, L, M1, la, ma, lc, mc, rs1, rfl, hp, hrdb⟩
  obtain ⟨pa, rfl⟩ : ∃ pa, p = .pointer (some pa) := by
    obtain ⟨F, f1, _⟩ := hp.scn.mr.has
    exact I.ptr f1
  have HP := Lib.hid hp
  have HRDB := Lib.hid hrdb
  have hLi : (L : Int) ≤ 70 := by have := hp.ll.2; omega
  have hMi : (M1 : Int) ≤ 76 := by have := hp.lm.2; omega
  have HXY : Hid (x < 4294967296 ∧ y < 4294967296) := ⟨hp.tx.idx, hp.ty.idx⟩
  clear hp hrdb HPA
  go_wp2_with fail
  refine (awake16_any I HK.out w1).mono ?_
  rintro e w2 ⟨rfl, hb2⟩
  have HS2 := Lib.hid (HP.out.scn.calm hb2)
  clear hb2
  obtain ⟨N, hN⟩ : ∃ N, A.σ.cap = N := ⟨_, rfl⟩
  obtain ⟨M, hM⟩ : ∃ M, A.σ.free.length = M := ⟨_, rfl⟩
  have HNM : Hid (A.σ.cap = N ∧ A.σ.free.length = M) := ⟨hN, hM⟩
  clear hN hM
  go_wp2_with fail
  refine HS2.out.dump.mono ?_
  rintro e w3 ⟨da, dc, db, dd, rfl, hs3, -⟩
  rw [HNM.out.1, HNM.out.2] at hs3 ⊢
  have HS3 := Lib.hid hs3
  clear hs3 HS2
  go_wp2_with fail
  refine HS3.out.reads.mono ?_
  rintro e w4 ⟨rfl, hs4⟩
  have hs5 := hs4.box #[.slice da N dc, .slice db M dd] 33
  clear hs4 HS3
  go_upto_region 5 with fail
  generalize w4.alloc (.cells #[.slice da N dc, .slice db M dd] 33) = w5 at hs5 ⊢
  generalize w4.heap.size = q at hs5 ⊢
  obtain ⟨rs, hrs⟩ : ∃ rs : List Row, rs = ⟨26, 1, .slice db M dd, M, u32s A.σ.free⟩ :: ⟨87, 11, .slice da N dc, N, slotsV A⟩ :: rs1 := ⟨_, rfl⟩
  rw [← hrs] at hs5
  have HR0 : Hid ((⟨26, 1, .slice db M dd, M, u32s A.σ.free⟩ : Row) ∈ rs) := by show _ ∈ _; rw [hrs]; simp
  have HR1 : Hid ((⟨87, 11, .slice da N dc, N, slotsV A⟩ : Row) ∈ rs) := by show _ ∈ _; rw [hrs]; simp
  have HRL : Hid ((⟨69, 2, .slice la L lc, L, ensV l⟩ : Row) ∈ rs ∧ (⟨69, 2, .slice ma M1 mc, M1, ensV m⟩ : Row) ∈ rs) := by show _ ∧ _; rw [hrs]; exact ⟨List.mem_cons_of_mem _ (List.mem_cons_of_mem _ HP.out.rl), List.mem_cons_of_mem _ (List.mem_cons_of_mem _ HP.out.rm)⟩
  have HS5 := Lib.hid hs5
  clear hs5 hrs
  have HCEL : Hid (∀ {wx : World} {C : Ar} {rdx : Int} {rs' : List Row} {bs' : List (Nat × Obj)}, Scn I w.heap.size w wx (.pointer (some pa)) C rdx rs' (bs' ++ [(q, .cells #[.slice da N dc, .slice db M dd] 33 (0, 0))]) → wx.cell? ⟨q, 0, none⟩ = some (.slice da N dc) ∧ wx.cell? ⟨q, 1, none⟩ = some (.slice db M dd)) := fun {wx C rdx rs' bs'} h => two_cells (h.boxes (q, .cells #[.slice da N dc, .slice db M dd] 33 (0, 0)) (by simp)).2
  have HSET := Lib.hid (set_pos (n := L) (m := M1) (by omega))
  have HSETN : Hid (setI (l.length : Int) (m.length : Int) = setI (L : Int) (M1 : Int)) := by show _ = _; rw [HP.out.ll.1, HP.out.lm.1]
  have HSO : Hid (∀ wx, Calls Tryz.prog 19 #[.int .i64 (L : Int), .int .i64 (M1 : Int)] wx (Calm wx (.int .i64 (setI (L : Int) (M1 : Int))))) := fun wx => refSetOperation_any _ _ _ ⟨by omega, by omega⟩ ⟨by omega, by omega⟩
  have HHS : Hid (∀ j, hof [x, y] j ≤ 1048000) := fun j => by have := hof_le [x, y] j; simp at this; omega
  have HXYB : Hid (x ≤ 65536 ∧ y ≤ 65536) := by
    have h2 := HP.out.inv.ok.cap2
    refine ⟨?_, ?_⟩
    · rcases HP.out.tx.sub.idx with h | h
      · omega
      · have := HP.out.inv.ok.on x h; omega
    · rcases HP.out.ty.sub.idx with h | h
      · omega
      · have := HP.out.inv.ok.on y h; omega
  have hwxy : IntKind.u32.wrap ((x : Int) + (y : Int)) = ((x + y : Nat) : Int) := by have := HXYB.out; rw [IntKind.wrap_u32']; omega
  go_wp2_with fail
  refine (HSO.out w5).mono ?_
  rintro e w5b ⟨rfl, hb5⟩
  have HS5b := Lib.hid (HS5.out.calm hb5)
  clear hb5 HS5
  cases ex with
  | true =>
    go_wp2_with fail
    refine (HS5b.out.mut fun F hI => HK.out.exclusive w5b hI HP.out.inv HHS.out HP.out.tx HP.out.ty HP.out.wl HP.out.wm HP.out.rd0.1 (by have := HP.out.rd0; omega)).mono ?_
    rintro e w6 ⟨B, rd6, hq, hs6⟩
    have HS6 := Lib.hid hs6
    clear hs6 HS5b
    obtain ⟨i, ev, rfl⟩ := hq.ret
    have HQ := Lib.hid hq
    clear hq
    by_cases hxy : x = y
    · have hres : (if x = y then 0 else x + y) = 0 := if_pos hxy
      rw [hres] at HQ
      have HSAME : Hid (x = 0 ∨ y = 0 ∨ x = y) := .inr (.inr hxy)
      have q3 : ((x : Int) == (y : Int)) = true := by simp [hxy]
      have q5 : ((x : Int) != (y : Int)) = false := by simp [hxy]
      by_cases hx : x = 0
      · have q1 : ((x : Int) == 0) = true := by simp [hx]
        clear hres hxy hx
        have HBT : Hid (∀ u v : World, Below w6.heap.size w6 u → Below u.heap.size u v → Below w6.heap.size w6 v) := fun u v h1 h2 => h1.trans (h2.mono h1.size)
        have HCX : Hid (∀ wx, Below w6.heap.size w6 wx → wx.cell? ⟨q, 0, none⟩ = some (.slice da N dc) ∧ wx.cell? ⟨q, 1, none⟩ = some (.slice db M dd)) := fun wx hb => HCEL.out (bs' := []) (HS6.out.calm hb)
        have HEL : Hid (∀ wx, Below w6.heap.size w6 wx → EnsAt wx la l ∧ EnsAt wx ma m) := fun wx hb => ⟨ens_row (w := wx) (B := w.heap.size) (c := lc) HP.out.ll.1 ((HS6.out.calm hb).rows _ HRL.out.1) HP.out.wl, ens_row (w := wx) (B := w.heap.size) (c := mc) HP.out.lm.1 ((HS6.out.calm hb).rows _ HRL.out.2) HP.out.wm⟩
        obtain ⟨WL, hWL⟩ : ∃ n, (excE l m).length = n := ⟨_, rfl⟩
        have HWL : Hid ((excE l m).length = WL ∧ WL ≤ 65536) := ⟨hWL, by have h1 := excE_len l m; have h2 := HP.out.ll; have h3 := HP.out.lm; omega⟩
        clear hWL
        have HREF : Hid (∀ wx, Below w6.heap.size w6 wx → Calls Tryz.prog 23 #[.slice la L lc, .slice ma M1 mc] wx (fun e w' => ∃ a c, e = .returned (.slice a WL c) ∧ EnsAt w' a (excE l m) ∧ Below wx.heap.size wx w')) := fun wx hb => (exclusive_any (HEL.out wx hb).1 HP.out.ll.1 (by have := HP.out.ll; omega) (HEL.out wx hb).2 HP.out.lm.1 (by have := HP.out.lm; omega)).mono fun e w' ⟨a, c, h1, h2, h3⟩ => ⟨a, c, by rw [h1, HWL.out.1], h2, h3⟩
        have hbd : Below w6.heap.size w6 w6.drew := (Below.refl _ _).drew
        obtain ⟨q0, q1⟩ := HCX.out _ (Below.refl _ _)
        go_upto_region 11 with fail
        refine wp_region_held_drew (S := (fun w' => w'.cell? ⟨q, 0, none⟩ = some (.slice da N dc) ∧ w'.cell? ⟨q, 1, none⟩ = some (.slice db M dd))) (by kernel_rfl) (by (try dsimp only); go_keep) (fun hHeld => ?_)
        refine take_d16k (v := ?_) 0 70 rfl (by kernel_rfl) (Or.inl ⟨by rfl, ?_⟩) (by assumption) ?_
        rotate_left
        · intro w hSw; (try dsimp only at hSw); go_simp; try with_reducible rfl
        (try simp only [Act.put, put_s])
        refine take_d16k (v := ?_) 1 71 rfl (by kernel_rfl) (Or.inl ⟨by rfl, ?_⟩) (by assumption) ?_
        rotate_left
        · intro w hSw; (try dsimp only at hSw); go_simp; try with_reducible rfl
        (try simp only [Act.put, put_s])
        refine take_d16k (v := ?_) 2 72 rfl (by kernel_rfl) (Or.inl ⟨by rfl, ?_⟩) (by assumption) ?_
        rotate_left
        · intro w hSw; (try dsimp only at hSw); go_simp; try with_reducible rfl
        (try simp only [Act.put, put_s])
        refine take_d16k (v := ?_) 3 73 rfl (by kernel_rfl) (Or.inl ⟨by rfl, ?_⟩) (by assumption) ?_
        rotate_left
        · intro w hSw; (try dsimp only at hSw); go_simp; try with_reducible rfl
        (try simp only [Act.put, put_s])
        refine take_d16k (v := ?_) 4 74 rfl (by kernel_rfl) (Or.inl ⟨by rfl, ?_⟩) (by assumption) ?_
        rotate_left
        · intro w hSw; (try dsimp only at hSw); go_simp; try with_reducible rfl
        (try simp only [Act.put, put_s])
        refine take_d16k (v := ?_) 5 75 rfl (by kernel_rfl) (Or.inl ⟨by rfl, ?_⟩) (by assumption) ?_
        rotate_left
        · intro w hSw; (try dsimp only at hSw); go_simp; try with_reducible rfl
        (try simp only [Act.put, put_s])
        refine take_d16k (v := ?_) 6 76 rfl (by kernel_rfl) (Or.inl ⟨by rfl, ?_⟩) (by assumption) ?_
        rotate_left
        · intro w hSw; (try dsimp only at hSw); go_simp; try with_reducible rfl
        (try simp only [Act.put, put_s])
        refine take_d16k (v := ?_) 7 77 rfl (by kernel_rfl) (Or.inl ⟨by rfl, ?_⟩) (by assumption) ?_
        rotate_left
        · intro w hSw; (try dsimp only at hSw); go_simp; try with_reducible rfl
        (try simp only [Act.put, put_s])
        refine take_d16k (v := ?_) 8 78 rfl (by kernel_rfl) (Or.inl ⟨by rfl, ?_⟩) (by assumption) ?_
        rotate_left
        · intro w hSw; (try dsimp only at hSw); go_simp; try with_reducible rfl
        (try simp only [Act.put, put_s])
        refine take_d16k (v := ?_) 10 80 rfl (by kernel_rfl) (Or.inl ⟨by rfl, ?_⟩) (by assumption) ?_
        rotate_left
        · intro w hSw; (try dsimp only at hSw); go_simp; try with_reducible rfl
        (try simp only [Act.put, put_s])
        refine take_d16k (v := ?_) 11 81 rfl (by kernel_rfl) (Or.inl ⟨by rfl, ?_⟩) (by assumption) ?_
        rotate_left
        · intro w hSw; (try dsimp only at hSw); go_simp; try with_reducible rfl
        (try simp only [Act.put, put_s])
        refine take_d16k (v := ?_) 21 91 rfl (by kernel_rfl) (Or.inl ⟨by rfl, ?_⟩) (by assumption) ?_
        rotate_left
        · intro w hSw; (try dsimp only at hSw); go_simp; try with_reducible rfl
        (try simp only [Act.put, put_s])
        refine take_d16k (v := ?_) 22 92 rfl (by kernel_rfl) (Or.inl ⟨by rfl, ?_⟩) (by assumption) ?_
        rotate_left
        · intro w hSw; (try dsimp only at hSw); go_simp; try with_reducible rfl
        (try simp only [Act.put, put_s])
        refine wpAnyH_ready (rs := [9]) (by kernel_rfl) (by simp) ?_
        refine AllReadyH.cons (o := _) rfl (fun K hK => ?_) AllReadyH.nil
        go_simp
        go_at_call 23; refine (HREF.out _ (by assumption)).mono ?_; rintro e wI ⟨ai, ci, rfl, hEI, hbI⟩; have hBI := HBT.out _ _ (by assumption) hbI; obtain ⟨q0, q1⟩ := HCX.out _ hBI
        try go_wp2_with fail
        refine hK.out _ _ (by (try dsimp only); go_keep) (fun hHeld => ?_)
        clear hK K
        (try simp only [Act.put, put_s])
        refine take_d16k (v := ?_) 12 82 rfl (by kernel_rfl) (Or.inl ⟨by rfl, ?_⟩) (by assumption) ?_
        rotate_left
        · intro w hSw; (try dsimp only at hSw); go_simp; try with_reducible rfl
        (try simp only [Act.put, put_s])
        refine take_d16k (v := undef) 13 83 rfl (by kernel_rfl) (Or.inr ⟨by kernel_rfl, rfl⟩) (by assumption) ?_
        (try simp only [Act.put, put_s])
        refine take_d16k (v := undef) 14 84 rfl (by kernel_rfl) (Or.inr ⟨by kernel_rfl, rfl⟩) (by assumption) ?_
        (try simp only [Act.put, put_s])
        refine take_d16k (v := ?_) 15 85 rfl (by kernel_rfl) (Or.inl ⟨by rfl, ?_⟩) (by assumption) ?_
        rotate_left
        · intro w hSw; (try dsimp only at hSw); go_simp; try with_reducible rfl
        (try simp only [Act.put, put_s])
        refine take_d16k (v := ?_) 16 86 rfl (by kernel_rfl) (Or.inl ⟨by rfl, ?_⟩) (by assumption) ?_
        rotate_left
        · intro w hSw; (try dsimp only at hSw); go_simp; try with_reducible rfl
        (try simp only [Act.put, put_s])
        refine take_d16k (v := undef) 17 87 rfl (by kernel_rfl) (Or.inr ⟨by kernel_rfl, rfl⟩) (by assumption) ?_
        (try simp only [Act.put, put_s])
        refine take_d16k (v := undef) 18 88 rfl (by kernel_rfl) (Or.inr ⟨by kernel_rfl, rfl⟩) (by assumption) ?_
        (try simp only [Act.put, put_s])
        refine take_d16k (v := undef) 19 89 rfl (by kernel_rfl) (Or.inr ⟨by kernel_rfl, rfl⟩) (by assumption) ?_
        (try simp only [Act.put, put_s])
        refine take_d16k (v := ?_) 20 90 rfl (by kernel_rfl) (Or.inl ⟨by rfl, ?_⟩) (by assumption) ?_
        rotate_left
        · intro w hSw; (try dsimp only at hSw); go_simp; try with_reducible rfl
        (try simp only [Act.put, put_s])
        refine wpAnyH_ready (rs := [23]) (by kernel_rfl) (by simp) ?_
        refine AllReadyH.cons (o := _) rfl (fun K hK => ?_) AllReadyH.nil
        go_simp
        go_at_call 17; refine (checked_any HCHK.out ((HS6.out.calm (by assumption)).less (List.Sublist.refl _) (List.nil_sublist _)) HQ.out (iff_of_true rfl HSAME.out) HSETN.out HP.out.inv HNM.out.1 HNM.out.2 HP.out.tx HP.out.ty HR0.out HR1.out (by first | exact hEI | exact hEI.below hbS) HWL.out.1 HWL.out.2 (excE_up HP.out.tx.up) HP.out.rd0.1 (by have := HP.out.rd0; omega) HSET.out.1 (by have := HSET.out; omega)).mono ?_; rintro e wZ ⟨rfl, hbZ⟩; have hBZ := HBT.out _ _ (by assumption) hbZ; obtain ⟨q0, q1⟩ := HCX.out _ hBZ
        try go_wp2_with fail
        refine hK.out _ _ (by (try dsimp only); go_keep) (fun hHeld => ?_)
        clear hK K
        (try simp only [Act.put, put_s])
        refine take_d16k (v := ?_) 24 12 rfl (by kernel_rfl) (Or.inl ⟨by rfl, ?_⟩) (by assumption) ?_
        rotate_left
        · intro w hSw; (try dsimp only at hSw); go_simp; try with_reducible rfl
        (try simp only [Act.put, put_s])
        refine wpAnyH_done (by kernel_rfl) ?_ _
        go_wp2_with fail
        go_ret
        exact ⟨rfl, (HS6.out.calm hBZ).below⟩
      · have q1 : ((x : Int) == 0) = false := by simp; omega
        have q2 : ((y : Int) == 0) = false := by simp; omega
        clear hres hxy hx
        have HBT : Hid (∀ u v : World, Below w6.heap.size w6 u → Below u.heap.size u v → Below w6.heap.size w6 v) := fun u v h1 h2 => h1.trans (h2.mono h1.size)
        have HCX : Hid (∀ wx, Below w6.heap.size w6 wx → wx.cell? ⟨q, 0, none⟩ = some (.slice da N dc) ∧ wx.cell? ⟨q, 1, none⟩ = some (.slice db M dd)) := fun wx hb => HCEL.out (bs' := []) (HS6.out.calm hb)
        have HEL : Hid (∀ wx, Below w6.heap.size w6 wx → EnsAt wx la l ∧ EnsAt wx ma m) := fun wx hb => ⟨ens_row (w := wx) (B := w.heap.size) (c := lc) HP.out.ll.1 ((HS6.out.calm hb).rows _ HRL.out.1) HP.out.wl, ens_row (w := wx) (B := w.heap.size) (c := mc) HP.out.lm.1 ((HS6.out.calm hb).rows _ HRL.out.2) HP.out.wm⟩
        obtain ⟨WL, hWL⟩ : ∃ n, (excE l m).length = n := ⟨_, rfl⟩
        have HWL : Hid ((excE l m).length = WL ∧ WL ≤ 65536) := ⟨hWL, by have h1 := excE_len l m; have h2 := HP.out.ll; have h3 := HP.out.lm; omega⟩
        clear hWL
        have HREF : Hid (∀ wx, Below w6.heap.size w6 wx → Calls Tryz.prog 23 #[.slice la L lc, .slice ma M1 mc] wx (fun e w' => ∃ a c, e = .returned (.slice a WL c) ∧ EnsAt w' a (excE l m) ∧ Below wx.heap.size wx w')) := fun wx hb => (exclusive_any (HEL.out wx hb).1 HP.out.ll.1 (by have := HP.out.ll; omega) (HEL.out wx hb).2 HP.out.lm.1 (by have := HP.out.lm; omega)).mono fun e w' ⟨a, c, h1, h2, h3⟩ => ⟨a, c, by rw [h1, HWL.out.1], h2, h3⟩
        have hbd : Below w6.heap.size w6 w6.drew := (Below.refl _ _).drew
        obtain ⟨q0, q1⟩ := HCX.out _ (Below.refl _ _)
        go_upto_region 11 with fail
        go_region_held3 (fun w' => w'.cell? ⟨q, 0, none⟩ = some (.slice da N dc) ∧ w'.cell? ⟨q, 1, none⟩ = some (.slice db M dd)) (go_keep) (first
          | (go_at_call 23; refine (HREF.out _ (by assumption)).mono ?_; rintro e wI ⟨ai, ci, rfl, hEI, hbI⟩; have hBI := HBT.out _ _ (by assumption) hbI; obtain ⟨q0, q1⟩ := HCX.out _ hBI)
          | (go_at_call 19; refine (HSO.out _).mono ?_; rintro e wS ⟨rfl, hbS⟩; have hBS := HBT.out _ _ (by assumption) hbS; obtain ⟨q0, q1⟩ := HCX.out _ hBS)
          | (go_at_call 17; refine (checked_any HCHK.out ((HS6.out.calm (by assumption)).less (List.Sublist.refl _) (List.nil_sublist _)) HQ.out (iff_of_true rfl HSAME.out) HSETN.out HP.out.inv HNM.out.1 HNM.out.2 HP.out.tx HP.out.ty HR0.out HR1.out (by first | exact hEI | exact hEI.below hbS) HWL.out.1 HWL.out.2 (excE_up HP.out.tx.up) HP.out.rd0.1 (by have := HP.out.rd0; omega) HSET.out.1 (by have := HSET.out; omega)).mono ?_; rintro e wZ ⟨rfl, hbZ⟩; have hBZ := HBT.out _ _ (by assumption) hbZ; obtain ⟨q0, q1⟩ := HCX.out _ hBZ))
        all_goals (go_wp2_with fail; go_ret; exact ⟨rfl, (HS6.out.calm hBZ).below⟩)
    · have hres : (if x = y then 0 else x + y) = x + y := if_neg hxy
      rw [hres] at HQ
      have q3 : ((x : Int) == (y : Int)) = false := by simp; omega
      have q5 : ((x : Int) != (y : Int)) = true := by simp; omega
      by_cases hx : x = 0
      · have q1 : ((x : Int) == 0) = true := by simp [hx]
        have HSAME : Hid (x = 0 ∨ y = 0 ∨ x = y) := .inl hx
        clear hres hxy hx
        have HBT : Hid (∀ u v : World, Below w6.heap.size w6 u → Below u.heap.size u v → Below w6.heap.size w6 v) := fun u v h1 h2 => h1.trans (h2.mono h1.size)
        have HCX : Hid (∀ wx, Below w6.heap.size w6 wx → wx.cell? ⟨q, 0, none⟩ = some (.slice da N dc) ∧ wx.cell? ⟨q, 1, none⟩ = some (.slice db M dd)) := fun wx hb => HCEL.out (bs' := []) (HS6.out.calm hb)
        have HEL : Hid (∀ wx, Below w6.heap.size w6 wx → EnsAt wx la l ∧ EnsAt wx ma m) := fun wx hb => ⟨ens_row (w := wx) (B := w.heap.size) (c := lc) HP.out.ll.1 ((HS6.out.calm hb).rows _ HRL.out.1) HP.out.wl, ens_row (w := wx) (B := w.heap.size) (c := mc) HP.out.lm.1 ((HS6.out.calm hb).rows _ HRL.out.2) HP.out.wm⟩
        obtain ⟨WL, hWL⟩ : ∃ n, (excE l m).length = n := ⟨_, rfl⟩
        have HWL : Hid ((excE l m).length = WL ∧ WL ≤ 65536) := ⟨hWL, by have h1 := excE_len l m; have h2 := HP.out.ll; have h3 := HP.out.lm; omega⟩
        clear hWL
        have HREF : Hid (∀ wx, Below w6.heap.size w6 wx → Calls Tryz.prog 23 #[.slice la L lc, .slice ma M1 mc] wx (fun e w' => ∃ a c, e = .returned (.slice a WL c) ∧ EnsAt w' a (excE l m) ∧ Below wx.heap.size wx w')) := fun wx hb => (exclusive_any (HEL.out wx hb).1 HP.out.ll.1 (by have := HP.out.ll; omega) (HEL.out wx hb).2 HP.out.lm.1 (by have := HP.out.lm; omega)).mono fun e w' ⟨a, c, h1, h2, h3⟩ => ⟨a, c, by rw [h1, HWL.out.1], h2, h3⟩
        have hbd : Below w6.heap.size w6 w6.drew := (Below.refl _ _).drew
        obtain ⟨q0, q1⟩ := HCX.out _ (Below.refl _ _)
        go_upto_region 11 with fail
        refine wp_region_held_drew (S := (fun w' => w'.cell? ⟨q, 0, none⟩ = some (.slice da N dc) ∧ w'.cell? ⟨q, 1, none⟩ = some (.slice db M dd))) (by kernel_rfl) (by (try dsimp only); go_keep) (fun hHeld => ?_)
        refine take_d16k (v := ?_) 0 70 rfl (by kernel_rfl) (Or.inl ⟨by rfl, ?_⟩) (by assumption) ?_
        rotate_left
        · intro w hSw; (try dsimp only at hSw); go_simp; try with_reducible rfl
        (try simp only [Act.put, put_s])
        refine take_d16k (v := ?_) 1 71 rfl (by kernel_rfl) (Or.inl ⟨by rfl, ?_⟩) (by assumption) ?_
        rotate_left
        · intro w hSw; (try dsimp only at hSw); go_simp; try with_reducible rfl
        (try simp only [Act.put, put_s])
        refine take_d16k (v := ?_) 2 72 rfl (by kernel_rfl) (Or.inl ⟨by rfl, ?_⟩) (by assumption) ?_
        rotate_left
        · intro w hSw; (try dsimp only at hSw); go_simp; try with_reducible rfl
        (try simp only [Act.put, put_s])
        refine take_d16k (v := ?_) 3 73 rfl (by kernel_rfl) (Or.inl ⟨by rfl, ?_⟩) (by assumption) ?_
        rotate_left
        · intro w hSw; (try dsimp only at hSw); go_simp; try with_reducible rfl
        (try simp only [Act.put, put_s])
        refine take_d16k (v := ?_) 4 74 rfl (by kernel_rfl) (Or.inl ⟨by rfl, ?_⟩) (by assumption) ?_
        rotate_left
        · intro w hSw; (try dsimp only at hSw); go_simp; try with_reducible rfl
        (try simp only [Act.put, put_s])
        refine take_d16k (v := ?_) 5 75 rfl (by kernel_rfl) (Or.inl ⟨by rfl, ?_⟩) (by assumption) ?_
        rotate_left
        · intro w hSw; (try dsimp only at hSw); go_simp; try with_reducible rfl
        (try simp only [Act.put, put_s])
        refine take_d16k (v := ?_) 6 76 rfl (by kernel_rfl) (Or.inl ⟨by rfl, ?_⟩) (by assumption) ?_
        rotate_left
        · intro w hSw; (try dsimp only at hSw); go_simp; try with_reducible rfl
        (try simp only [Act.put, put_s])
        refine take_d16k (v := ?_) 7 77 rfl (by kernel_rfl) (Or.inl ⟨by rfl, ?_⟩) (by assumption) ?_
        rotate_left
        · intro w hSw; (try dsimp only at hSw); go_simp; try with_reducible rfl
        (try simp only [Act.put, put_s])
        refine take_d16k (v := ?_) 8 78 rfl (by kernel_rfl) (Or.inl ⟨by rfl, ?_⟩) (by assumption) ?_
        rotate_left
        · intro w hSw; (try dsimp only at hSw); go_simp; try with_reducible rfl
        (try simp only [Act.put, put_s])
        refine take_d16k (v := ?_) 10 80 rfl (by kernel_rfl) (Or.inl ⟨by rfl, ?_⟩) (by assumption) ?_
        rotate_left
        · intro w hSw; (try dsimp only at hSw); go_simp; try with_reducible rfl
        (try simp only [Act.put, put_s])
        refine take_d16k (v := ?_) 11 81 rfl (by kernel_rfl) (Or.inl ⟨by rfl, ?_⟩) (by assumption) ?_
        rotate_left
        · intro w hSw; (try dsimp only at hSw); go_simp; try with_reducible rfl
        (try simp only [Act.put, put_s])
        refine take_d16k (v := ?_) 21 91 rfl (by kernel_rfl) (Or.inl ⟨by rfl, ?_⟩) (by assumption) ?_
        rotate_left
        · intro w hSw; (try dsimp only at hSw); go_simp; try with_reducible rfl
        (try simp only [Act.put, put_s])
        refine take_d16k (v := ?_) 22 92 rfl (by kernel_rfl) (Or.inl ⟨by rfl, ?_⟩) (by assumption) ?_
        rotate_left
        · intro w hSw; (try dsimp only at hSw); go_simp; try with_reducible rfl
        (try simp only [Act.put, put_s])
        refine wpAnyH_ready (rs := [9]) (by kernel_rfl) (by simp) ?_
        refine AllReadyH.cons (o := _) rfl (fun K hK => ?_) AllReadyH.nil
        go_simp
        go_at_call 23; refine (HREF.out _ (by assumption)).mono ?_; rintro e wI ⟨ai, ci, rfl, hEI, hbI⟩; have hBI := HBT.out _ _ (by assumption) hbI; obtain ⟨q0, q1⟩ := HCX.out _ hBI
        try go_wp2_with fail
        refine hK.out _ _ (by (try dsimp only); go_keep) (fun hHeld => ?_)
        clear hK K
        (try simp only [Act.put, put_s])
        refine take_d16k (v := ?_) 12 82 rfl (by kernel_rfl) (Or.inl ⟨by rfl, ?_⟩) (by assumption) ?_
        rotate_left
        · intro w hSw; (try dsimp only at hSw); go_simp; try with_reducible rfl
        (try simp only [Act.put, put_s])
        refine take_d16k (v := undef) 13 83 rfl (by kernel_rfl) (Or.inr ⟨by kernel_rfl, rfl⟩) (by assumption) ?_
        (try simp only [Act.put, put_s])
        refine take_d16k (v := undef) 14 84 rfl (by kernel_rfl) (Or.inr ⟨by kernel_rfl, rfl⟩) (by assumption) ?_
        (try simp only [Act.put, put_s])
        refine take_d16k (v := ?_) 15 85 rfl (by kernel_rfl) (Or.inl ⟨by rfl, ?_⟩) (by assumption) ?_
        rotate_left
        · intro w hSw; (try dsimp only at hSw); go_simp; try with_reducible rfl
        (try simp only [Act.put, put_s])
        refine take_d16k (v := ?_) 16 86 rfl (by kernel_rfl) (Or.inl ⟨by rfl, ?_⟩) (by assumption) ?_
        rotate_left
        · intro w hSw; (try dsimp only at hSw); go_simp; try with_reducible rfl
        (try simp only [Act.put, put_s])
        refine take_d16k (v := undef) 17 87 rfl (by kernel_rfl) (Or.inr ⟨by kernel_rfl, rfl⟩) (by assumption) ?_
        (try simp only [Act.put, put_s])
        refine take_d16k (v := undef) 18 88 rfl (by kernel_rfl) (Or.inr ⟨by kernel_rfl, rfl⟩) (by assumption) ?_
        (try simp only [Act.put, put_s])
        refine take_d16k (v := undef) 19 89 rfl (by kernel_rfl) (Or.inr ⟨by kernel_rfl, rfl⟩) (by assumption) ?_
        (try simp only [Act.put, put_s])
        refine take_d16k (v := ?_) 20 90 rfl (by kernel_rfl) (Or.inl ⟨by rfl, ?_⟩) (by assumption) ?_
        rotate_left
        · intro w hSw; (try dsimp only at hSw); go_simp; try with_reducible rfl
        (try simp only [Act.put, put_s])
        refine wpAnyH_ready (rs := [23]) (by kernel_rfl) (by simp) ?_
        refine AllReadyH.cons (o := _) rfl (fun K hK => ?_) AllReadyH.nil
        go_simp
        go_at_call 17; refine (checked_any HCHK.out ((HS6.out.calm (by assumption)).less (List.Sublist.refl _) (List.nil_sublist _)) HQ.out (iff_of_true rfl HSAME.out) HSETN.out HP.out.inv HNM.out.1 HNM.out.2 HP.out.tx HP.out.ty HR0.out HR1.out (by first | exact hEI | exact hEI.below hbS) HWL.out.1 HWL.out.2 (excE_up HP.out.tx.up) HP.out.rd0.1 (by have := HP.out.rd0; omega) HSET.out.1 (by have := HSET.out; omega)).mono ?_; rintro e wZ ⟨rfl, hbZ⟩; have hBZ := HBT.out _ _ (by assumption) hbZ; obtain ⟨q0, q1⟩ := HCX.out _ hBZ
        try go_wp2_with fail
        refine hK.out _ _ (by (try dsimp only); go_keep) (fun hHeld => ?_)
        clear hK K
        (try simp only [Act.put, put_s])
        refine take_d16k (v := ?_) 24 12 rfl (by kernel_rfl) (Or.inl ⟨by rfl, ?_⟩) (by assumption) ?_
        rotate_left
        · intro w hSw; (try dsimp only at hSw); go_simp; try with_reducible rfl
        (try simp only [Act.put, put_s])
        refine wpAnyH_done (by kernel_rfl) ?_ _
        go_wp2_with fail
        go_ret
        exact ⟨rfl, (HS6.out.calm hBZ).below⟩
      · have q1 : ((x : Int) == 0) = false := by simp; omega
        by_cases hy : y = 0
        · have q2 : ((y : Int) == 0) = true := by simp [hy]
          have HSAME : Hid (x = 0 ∨ y = 0 ∨ x = y) := .inr (.inl hy)
          clear hres hxy hx hy
          have HBT : Hid (∀ u v : World, Below w6.heap.size w6 u → Below u.heap.size u v → Below w6.heap.size w6 v) := fun u v h1 h2 => h1.trans (h2.mono h1.size)
          have HCX : Hid (∀ wx, Below w6.heap.size w6 wx → wx.cell? ⟨q, 0, none⟩ = some (.slice da N dc) ∧ wx.cell? ⟨q, 1, none⟩ = some (.slice db M dd)) := fun wx hb => HCEL.out (bs' := []) (HS6.out.calm hb)
          have HEL : Hid (∀ wx, Below w6.heap.size w6 wx → EnsAt wx la l ∧ EnsAt wx ma m) := fun wx hb => ⟨ens_row (w := wx) (B := w.heap.size) (c := lc) HP.out.ll.1 ((HS6.out.calm hb).rows _ HRL.out.1) HP.out.wl, ens_row (w := wx) (B := w.heap.size) (c := mc) HP.out.lm.1 ((HS6.out.calm hb).rows _ HRL.out.2) HP.out.wm⟩
          obtain ⟨WL, hWL⟩ : ∃ n, (excE l m).length = n := ⟨_, rfl⟩
          have HWL : Hid ((excE l m).length = WL ∧ WL ≤ 65536) := ⟨hWL, by have h1 := excE_len l m; have h2 := HP.out.ll; have h3 := HP.out.lm; omega⟩
          clear hWL
          have HREF : Hid (∀ wx, Below w6.heap.size w6 wx → Calls Tryz.prog 23 #[.slice la L lc, .slice ma M1 mc] wx (fun e w' => ∃ a c, e = .returned (.slice a WL c) ∧ EnsAt w' a (excE l m) ∧ Below wx.heap.size wx w')) := fun wx hb => (exclusive_any (HEL.out wx hb).1 HP.out.ll.1 (by have := HP.out.ll; omega) (HEL.out wx hb).2 HP.out.lm.1 (by have := HP.out.lm; omega)).mono fun e w' ⟨a, c, h1, h2, h3⟩ => ⟨a, c, by rw [h1, HWL.out.1], h2, h3⟩
          have hbd : Below w6.heap.size w6 w6.drew := (Below.refl _ _).drew
          obtain ⟨q0, q1⟩ := HCX.out _ (Below.refl _ _)
          go_upto_region 11 with fail
          refine wp_region_held_drew (S := (fun w' => w'.cell? ⟨q, 0, none⟩ = some (.slice da N dc) ∧ w'.cell? ⟨q, 1, none⟩ = some (.slice db M dd))) (by kernel_rfl) (by (try dsimp only); go_keep) (fun hHeld => ?_)
          refine take_d16k (v := ?_) 0 70 rfl (by kernel_rfl) (Or.inl ⟨by rfl, ?_⟩) (by assumption) ?_
          rotate_left
          · intro w hSw; (try dsimp only at hSw); go_simp; try with_reducible rfl
          (try simp only [Act.put, put_s])
          refine take_d16k (v := ?_) 1 71 rfl (by kernel_rfl) (Or.inl ⟨by rfl, ?_⟩) (by assumption) ?_
          rotate_left
          · intro w hSw; (try dsimp only at hSw); go_simp; try with_reducible rfl
          (try simp only [Act.put, put_s])
          refine take_d16k (v := ?_) 2 72 rfl (by kernel_rfl) (Or.inl ⟨by rfl, ?_⟩) (by assumption) ?_
          rotate_left
          · intro w hSw; (try dsimp only at hSw); go_simp; try with_reducible rfl
          (try simp only [Act.put, put_s])
          refine take_d16k (v := ?_) 3 73 rfl (by kernel_rfl) (Or.inl ⟨by rfl, ?_⟩) (by assumption) ?_
          rotate_left
          · intro w hSw; (try dsimp only at hSw); go_simp; try with_reducible rfl
          (try simp only [Act.put, put_s])
          refine take_d16k (v := ?_) 4 74 rfl (by kernel_rfl) (Or.inl ⟨by rfl, ?_⟩) (by assumption) ?_
          rotate_left
          · intro w hSw; (try dsimp only at hSw); go_simp; try with_reducible rfl
          (try simp only [Act.put, put_s])
          refine take_d16k (v := ?_) 5 75 rfl (by kernel_rfl) (Or.inl ⟨by rfl, ?_⟩) (by assumption) ?_
          rotate_left
          · intro w hSw; (try dsimp only at hSw); go_simp; try with_reducible rfl
          (try simp only [Act.put, put_s])
          refine take_d16k (v := ?_) 6 76 rfl (by kernel_rfl) (Or.inl ⟨by rfl, ?_⟩) (by assumption) ?_
          rotate_left
          · intro w hSw; (try dsimp only at hSw); go_simp; try with_reducible rfl
          (try simp only [Act.put, put_s])
          refine take_d16k (v := ?_) 7 77 rfl (by kernel_rfl) (Or.inl ⟨by rfl, ?_⟩) (by assumption) ?_
          rotate_left
          · intro w hSw; (try dsimp only at hSw); go_simp; try with_reducible rfl
          (try simp only [Act.put, put_s])
          refine take_d16k (v := ?_) 8 78 rfl (by kernel_rfl) (Or.inl ⟨by rfl, ?_⟩) (by assumption) ?_
          rotate_left
          · intro w hSw; (try dsimp only at hSw); go_simp; try with_reducible rfl
          (try simp only [Act.put, put_s])
          refine take_d16k (v := ?_) 10 80 rfl (by kernel_rfl) (Or.inl ⟨by rfl, ?_⟩) (by assumption) ?_
          rotate_left
          · intro w hSw; (try dsimp only at hSw); go_simp; try with_reducible rfl
          (try simp only [Act.put, put_s])
          refine take_d16k (v := ?_) 11 81 rfl (by kernel_rfl) (Or.inl ⟨by rfl, ?_⟩) (by assumption) ?_
          rotate_left
          · intro w hSw; (try dsimp only at hSw); go_simp; try with_reducible rfl
          (try simp only [Act.put, put_s])
          refine take_d16k (v := ?_) 21 91 rfl (by kernel_rfl) (Or.inl ⟨by rfl, ?_⟩) (by assumption) ?_
          rotate_left
          · intro w hSw; (try dsimp only at hSw); go_simp; try with_reducible rfl
          (try simp only [Act.put, put_s])
          refine take_d16k (v := ?_) 22 92 rfl (by kernel_rfl) (Or.inl ⟨by rfl, ?_⟩) (by assumption) ?_
          rotate_left
          · intro w hSw; (try dsimp only at hSw); go_simp; try with_reducible rfl
          (try simp only [Act.put, put_s])
          refine wpAnyH_ready (rs := [9]) (by kernel_rfl) (by simp) ?_
          refine AllReadyH.cons (o := _) rfl (fun K hK => ?_) AllReadyH.nil
          go_simp
          go_at_call 23; refine (HREF.out _ (by assumption)).mono ?_; rintro e wI ⟨ai, ci, rfl, hEI, hbI⟩; have hBI := HBT.out _ _ (by assumption) hbI; obtain ⟨q0, q1⟩ := HCX.out _ hBI
          try go_wp2_with fail
          refine hK.out _ _ (by (try dsimp only); go_keep) (fun hHeld => ?_)
          clear hK K
          (try simp only [Act.put, put_s])
          refine take_d16k (v := ?_) 12 82 rfl (by kernel_rfl) (Or.inl ⟨by rfl, ?_⟩) (by assumption) ?_
          rotate_left
          · intro w hSw; (try dsimp only at hSw); go_simp; try with_reducible rfl
          (try simp only [Act.put, put_s])
          refine take_d16k (v := ?_) 13 83 rfl (by kernel_rfl) (Or.inl ⟨by rfl, ?_⟩) (by assumption) ?_
          rotate_left
          · intro w hSw; (try dsimp only at hSw); go_simp; try with_reducible rfl
          (try simp only [Act.put, put_s])
          refine take_d16k (v := ?_) 14 84 rfl (by kernel_rfl) (Or.inl ⟨by rfl, ?_⟩) (by assumption) ?_
          rotate_left
          · intro w hSw; (try dsimp only at hSw); go_simp; try with_reducible rfl
          (try simp only [Act.put, put_s])
          refine take_d16k (v := ?_) 15 85 rfl (by kernel_rfl) (Or.inl ⟨by rfl, ?_⟩) (by assumption) ?_
          rotate_left
          · intro w hSw; (try dsimp only at hSw); go_simp; try with_reducible rfl
          (try simp only [Act.put, put_s])
          refine take_d16k (v := ?_) 16 86 rfl (by kernel_rfl) (Or.inl ⟨by rfl, ?_⟩) (by assumption) ?_
          rotate_left
          · intro w hSw; (try dsimp only at hSw); go_simp; try with_reducible rfl
          (try simp only [Act.put, put_s])
          refine take_d16k (v := undef) 17 87 rfl (by kernel_rfl) (Or.inr ⟨by kernel_rfl, rfl⟩) (by assumption) ?_
          (try simp only [Act.put, put_s])
          refine take_d16k (v := undef) 18 88 rfl (by kernel_rfl) (Or.inr ⟨by kernel_rfl, rfl⟩) (by assumption) ?_
          (try simp only [Act.put, put_s])
          refine take_d16k (v := undef) 19 89 rfl (by kernel_rfl) (Or.inr ⟨by kernel_rfl, rfl⟩) (by assumption) ?_
          (try simp only [Act.put, put_s])
          refine take_d16k (v := ?_) 20 90 rfl (by kernel_rfl) (Or.inl ⟨by rfl, ?_⟩) (by assumption) ?_
          rotate_left
          · intro w hSw; (try dsimp only at hSw); go_simp; try with_reducible rfl
          (try simp only [Act.put, put_s])
          refine wpAnyH_ready (rs := [23]) (by kernel_rfl) (by simp) ?_
          refine AllReadyH.cons (o := _) rfl (fun K hK => ?_) AllReadyH.nil
          go_simp
          go_at_call 17; refine (checked_any HCHK.out ((HS6.out.calm (by assumption)).less (List.Sublist.refl _) (List.nil_sublist _)) HQ.out (iff_of_true rfl HSAME.out) HSETN.out HP.out.inv HNM.out.1 HNM.out.2 HP.out.tx HP.out.ty HR0.out HR1.out (by first | exact hEI | exact hEI.below hbS) HWL.out.1 HWL.out.2 (excE_up HP.out.tx.up) HP.out.rd0.1 (by have := HP.out.rd0; omega) HSET.out.1 (by have := HSET.out; omega)).mono ?_; rintro e wZ ⟨rfl, hbZ⟩; have hBZ := HBT.out _ _ (by assumption) hbZ; obtain ⟨q0, q1⟩ := HCX.out _ hBZ
          try go_wp2_with fail
          refine hK.out _ _ (by (try dsimp only); go_keep) (fun hHeld => ?_)
          clear hK K
          (try simp only [Act.put, put_s])
          refine take_d16k (v := ?_) 24 12 rfl (by kernel_rfl) (Or.inl ⟨by rfl, ?_⟩) (by assumption) ?_
          rotate_left
          · intro w hSw; (try dsimp only at hSw); go_simp; try with_reducible rfl
          (try simp only [Act.put, put_s])
          refine wpAnyH_done (by kernel_rfl) ?_ _
          go_wp2_with fail
          go_ret
          exact ⟨rfl, (HS6.out.calm hBZ).below⟩
        · have q2 : ((y : Int) == 0) = false := by simp; omega
          have HNS : Hid (¬ (x = 0 ∨ y = 0 ∨ x = y)) := fun h => by rcases h with h | h | h; exact hx h; exact hy h; exact hxy h
          clear hres hxy hx hy
          have HBT : Hid (∀ u v : World, Below w6.heap.size w6 u → Below u.heap.size u v → Below w6.heap.size w6 v) := fun u v h1 h2 => h1.trans (h2.mono h1.size)
          have HCX : Hid (∀ wx, Below w6.heap.size w6 wx → wx.cell? ⟨q, 0, none⟩ = some (.slice da N dc) ∧ wx.cell? ⟨q, 1, none⟩ = some (.slice db M dd)) := fun wx hb => HCEL.out (bs' := []) (HS6.out.calm hb)
          have HEL : Hid (∀ wx, Below w6.heap.size w6 wx → EnsAt wx la l ∧ EnsAt wx ma m) := fun wx hb => ⟨ens_row (w := wx) (B := w.heap.size) (c := lc) HP.out.ll.1 ((HS6.out.calm hb).rows _ HRL.out.1) HP.out.wl, ens_row (w := wx) (B := w.heap.size) (c := mc) HP.out.lm.1 ((HS6.out.calm hb).rows _ HRL.out.2) HP.out.wm⟩
          obtain ⟨WL, hWL⟩ : ∃ n, (excE l m).length = n := ⟨_, rfl⟩
          have HWL : Hid ((excE l m).length = WL ∧ WL ≤ 65536) := ⟨hWL, by have h1 := excE_len l m; have h2 := HP.out.ll; have h3 := HP.out.lm; omega⟩
          clear hWL
          have HREF : Hid (∀ wx, Below w6.heap.size w6 wx → Calls Tryz.prog 23 #[.slice la L lc, .slice ma M1 mc] wx (fun e w' => ∃ a c, e = .returned (.slice a WL c) ∧ EnsAt w' a (excE l m) ∧ Below wx.heap.size wx w')) := fun wx hb => (exclusive_any (HEL.out wx hb).1 HP.out.ll.1 (by have := HP.out.ll; omega) (HEL.out wx hb).2 HP.out.lm.1 (by have := HP.out.lm; omega)).mono fun e w' ⟨a, c, h1, h2, h3⟩ => ⟨a, c, by rw [h1, HWL.out.1], h2, h3⟩
          have hbd : Below w6.heap.size w6 w6.drew := (Below.refl _ _).drew
          obtain ⟨q0, q1⟩ := HCX.out _ (Below.refl _ _)
          go_upto_region 11 with fail
          go_region_held3 (fun w' => w'.cell? ⟨q, 0, none⟩ = some (.slice da N dc) ∧ w'.cell? ⟨q, 1, none⟩ = some (.slice db M dd)) (go_keep) (first
            | (go_at_call 23; refine (HREF.out _ (by assumption)).mono ?_; rintro e wI ⟨ai, ci, rfl, hEI, hbI⟩; have hBI := HBT.out _ _ (by assumption) hbI; obtain ⟨q0, q1⟩ := HCX.out _ hBI)
            | (go_at_call 19; refine (HSO.out _).mono ?_; rintro e wS ⟨rfl, hbS⟩; have hBS := HBT.out _ _ (by assumption) hbS; obtain ⟨q0, q1⟩ := HCX.out _ hBS)
            | (go_at_call 17; refine (checked_any HCHK.out ((HS6.out.calm (by assumption)).less (List.Sublist.refl _) (List.nil_sublist _)) HQ.out (iff_of_false (by decide) HNS.out) HSETN.out HP.out.inv HNM.out.1 HNM.out.2 HP.out.tx HP.out.ty HR0.out HR1.out (by first | exact hEI | exact hEI.below hbS) HWL.out.1 HWL.out.2 (excE_up HP.out.tx.up) HP.out.rd0.1 (by have := HP.out.rd0; omega) HSET.out.1 (by have := HSET.out; omega)).mono ?_; rintro e wZ ⟨rfl, hbZ⟩; have hBZ := HBT.out _ _ (by assumption) hbZ; obtain ⟨q0, q1⟩ := HCX.out _ hBZ))
          all_goals (go_wp2_with fail; go_ret; exact ⟨rfl, (HS6.out.calm hBZ).below⟩)
  | false =>
    go_wp2_with fail
    refine (HS5b.out.mut fun F hI => HK.out.subtract w5b hI HP.out.inv HHS.out HP.out.tx HP.out.ty HP.out.wl HP.out.wm HP.out.rd0.1 (by have := HP.out.rd0; omega)).mono ?_
    rintro e w6 ⟨B, rd6, hq, hs6⟩
    have HS6 := Lib.hid hs6
    clear hs6 HS5b
    obtain ⟨i, ev, rfl⟩ := hq.ret
    have HQ := Lib.hid hq
    clear hq
    by_cases hxy : x = y
    · have hres : (if x = y then 0 else x) = 0 := if_pos hxy
      rw [hres] at HQ
      have HSAME : Hid (x = 0 ∨ y = 0 ∨ x = y) := .inr (.inr hxy)
      have q3 : ((x : Int) == (y : Int)) = true := by simp [hxy]
      have q5 : ((x : Int) != (y : Int)) = false := by simp [hxy]
      by_cases hx : x = 0
      · have q1 : ((x : Int) == 0) = true := by simp [hx]
        clear hres hxy hx
        have HBT : Hid (∀ u v : World, Below w6.heap.size w6 u → Below u.heap.size u v → Below w6.heap.size w6 v) := fun u v h1 h2 => h1.trans (h2.mono h1.size)
        have HCX : Hid (∀ wx, Below w6.heap.size w6 wx → wx.cell? ⟨q, 0, none⟩ = some (.slice da N dc) ∧ wx.cell? ⟨q, 1, none⟩ = some (.slice db M dd)) := fun wx hb => HCEL.out (bs' := []) (HS6.out.calm hb)
        have HEL : Hid (∀ wx, Below w6.heap.size w6 wx → EnsAt wx la l ∧ EnsAt wx ma m) := fun wx hb => ⟨ens_row (w := wx) (B := w.heap.size) (c := lc) HP.out.ll.1 ((HS6.out.calm hb).rows _ HRL.out.1) HP.out.wl, ens_row (w := wx) (B := w.heap.size) (c := mc) HP.out.lm.1 ((HS6.out.calm hb).rows _ HRL.out.2) HP.out.wm⟩
        obtain ⟨WL, hWL⟩ : ∃ n, (subE l m).length = n := ⟨_, rfl⟩
        have HWL : Hid ((subE l m).length = WL ∧ WL ≤ 65536) := ⟨hWL, by have h1 := subE_len l m; have h2 := HP.out.ll; omega⟩
        clear hWL
        have HREF : Hid (∀ wx, Below w6.heap.size w6 wx → Calls Tryz.prog 25 #[.slice la L lc, .slice ma M1 mc] wx (fun e w' => ∃ a c, e = .returned (.slice a WL c) ∧ EnsAt w' a (subE l m) ∧ Below wx.heap.size wx w')) := fun wx hb => (subtract_any (HEL.out wx hb).1 HP.out.ll.1 (by have := HP.out.ll; omega) (HEL.out wx hb).2 HP.out.lm.1 (by have := HP.out.lm; omega)).mono fun e w' h => made_ens h (subE_wf m HP.out.wl) HWL.out.1
        have hbd : Below w6.heap.size w6 w6.drew := (Below.refl _ _).drew
        obtain ⟨q0, q1⟩ := HCX.out _ (Below.refl _ _)
        go_upto_region 16 with fail
        refine wp_region_held_drew (S := (fun w' => w'.cell? ⟨q, 0, none⟩ = some (.slice da N dc) ∧ w'.cell? ⟨q, 1, none⟩ = some (.slice db M dd))) (by kernel_rfl) (by (try dsimp only); go_keep) (fun hHeld => ?_)
        refine take_d16k (v := ?_) 0 105 rfl (by kernel_rfl) (Or.inl ⟨by rfl, ?_⟩) (by assumption) ?_
        rotate_left
        · intro w hSw; (try dsimp only at hSw); go_simp; try with_reducible rfl
        (try simp only [Act.put, put_s])
        refine take_d16k (v := ?_) 1 106 rfl (by kernel_rfl) (Or.inl ⟨by rfl, ?_⟩) (by assumption) ?_
        rotate_left
        · intro w hSw; (try dsimp only at hSw); go_simp; try with_reducible rfl
        (try simp only [Act.put, put_s])
        refine take_d16k (v := ?_) 2 107 rfl (by kernel_rfl) (Or.inl ⟨by rfl, ?_⟩) (by assumption) ?_
        rotate_left
        · intro w hSw; (try dsimp only at hSw); go_simp; try with_reducible rfl
        (try simp only [Act.put, put_s])
        refine take_d16k (v := ?_) 3 108 rfl (by kernel_rfl) (Or.inl ⟨by rfl, ?_⟩) (by assumption) ?_
        rotate_left
        · intro w hSw; (try dsimp only at hSw); go_simp; try with_reducible rfl
        (try simp only [Act.put, put_s])
        refine take_d16k (v := ?_) 4 109 rfl (by kernel_rfl) (Or.inl ⟨by rfl, ?_⟩) (by assumption) ?_
        rotate_left
        · intro w hSw; (try dsimp only at hSw); go_simp; try with_reducible rfl
        (try simp only [Act.put, put_s])
        refine take_d16k (v := ?_) 5 110 rfl (by kernel_rfl) (Or.inl ⟨by rfl, ?_⟩) (by assumption) ?_
        rotate_left
        · intro w hSw; (try dsimp only at hSw); go_simp; try with_reducible rfl
        (try simp only [Act.put, put_s])
        refine take_d16k (v := ?_) 6 111 rfl (by kernel_rfl) (Or.inl ⟨by rfl, ?_⟩) (by assumption) ?_
        rotate_left
        · intro w hSw; (try dsimp only at hSw); go_simp; try with_reducible rfl
        (try simp only [Act.put, put_s])
        refine take_d16k (v := ?_) 7 112 rfl (by kernel_rfl) (Or.inl ⟨by rfl, ?_⟩) (by assumption) ?_
        rotate_left
        · intro w hSw; (try dsimp only at hSw); go_simp; try with_reducible rfl
        (try simp only [Act.put, put_s])
        refine take_d16k (v := ?_) 8 113 rfl (by kernel_rfl) (Or.inl ⟨by rfl, ?_⟩) (by assumption) ?_
        rotate_left
        · intro w hSw; (try dsimp only at hSw); go_simp; try with_reducible rfl
        (try simp only [Act.put, put_s])
        refine take_d16k (v := ?_) 10 115 rfl (by kernel_rfl) (Or.inl ⟨by rfl, ?_⟩) (by assumption) ?_
        rotate_left
        · intro w hSw; (try dsimp only at hSw); go_simp; try with_reducible rfl
        (try simp only [Act.put, put_s])
        refine take_d16k (v := ?_) 11 116 rfl (by kernel_rfl) (Or.inl ⟨by rfl, ?_⟩) (by assumption) ?_
        rotate_left
        · intro w hSw; (try dsimp only at hSw); go_simp; try with_reducible rfl
        (try simp only [Act.put, put_s])
        refine take_d16k (v := ?_) 21 126 rfl (by kernel_rfl) (Or.inl ⟨by rfl, ?_⟩) (by assumption) ?_
        rotate_left
        · intro w hSw; (try dsimp only at hSw); go_simp; try with_reducible rfl
        (try simp only [Act.put, put_s])
        refine take_d16k (v := ?_) 22 127 rfl (by kernel_rfl) (Or.inl ⟨by rfl, ?_⟩) (by assumption) ?_
        rotate_left
        · intro w hSw; (try dsimp only at hSw); go_simp; try with_reducible rfl
        (try simp only [Act.put, put_s])
        refine wpAnyH_ready (rs := [9]) (by kernel_rfl) (by simp) ?_
        refine AllReadyH.cons (o := _) rfl (fun K hK => ?_) AllReadyH.nil
        go_simp
        go_at_call 25; refine (HREF.out _ (by assumption)).mono ?_; rintro e wI ⟨ai, ci, rfl, hEI, hbI⟩; have hBI := HBT.out _ _ (by assumption) hbI; obtain ⟨q0, q1⟩ := HCX.out _ hBI
        try go_wp2_with fail
        refine hK.out _ _ (by (try dsimp only); go_keep) (fun hHeld => ?_)
        clear hK K
        (try simp only [Act.put, put_s])
        refine take_d16k (v := ?_) 12 117 rfl (by kernel_rfl) (Or.inl ⟨by rfl, ?_⟩) (by assumption) ?_
        rotate_left
        · intro w hSw; (try dsimp only at hSw); go_simp; try with_reducible rfl
        (try simp only [Act.put, put_s])
        refine take_d16k (v := undef) 13 118 rfl (by kernel_rfl) (Or.inr ⟨by kernel_rfl, rfl⟩) (by assumption) ?_
        (try simp only [Act.put, put_s])
        refine take_d16k (v := undef) 14 119 rfl (by kernel_rfl) (Or.inr ⟨by kernel_rfl, rfl⟩) (by assumption) ?_
        (try simp only [Act.put, put_s])
        refine take_d16k (v := ?_) 15 120 rfl (by kernel_rfl) (Or.inl ⟨by rfl, ?_⟩) (by assumption) ?_
        rotate_left
        · intro w hSw; (try dsimp only at hSw); go_simp; try with_reducible rfl
        (try simp only [Act.put, put_s])
        refine take_d16k (v := ?_) 16 121 rfl (by kernel_rfl) (Or.inl ⟨by rfl, ?_⟩) (by assumption) ?_
        rotate_left
        · intro w hSw; (try dsimp only at hSw); go_simp; try with_reducible rfl
        (try simp only [Act.put, put_s])
        refine take_d16k (v := undef) 17 122 rfl (by kernel_rfl) (Or.inr ⟨by kernel_rfl, rfl⟩) (by assumption) ?_
        (try simp only [Act.put, put_s])
        refine take_d16k (v := undef) 18 123 rfl (by kernel_rfl) (Or.inr ⟨by kernel_rfl, rfl⟩) (by assumption) ?_
        (try simp only [Act.put, put_s])
        refine take_d16k (v := undef) 19 124 rfl (by kernel_rfl) (Or.inr ⟨by kernel_rfl, rfl⟩) (by assumption) ?_
        (try simp only [Act.put, put_s])
        refine take_d16k (v := ?_) 20 125 rfl (by kernel_rfl) (Or.inl ⟨by rfl, ?_⟩) (by assumption) ?_
        rotate_left
        · intro w hSw; (try dsimp only at hSw); go_simp; try with_reducible rfl
        (try simp only [Act.put, put_s])
        refine wpAnyH_ready (rs := [23]) (by kernel_rfl) (by simp) ?_
        refine AllReadyH.cons (o := _) rfl (fun K hK => ?_) AllReadyH.nil
        go_simp
        go_at_call 17; refine (checked_any HCHK.out ((HS6.out.calm (by assumption)).less (List.Sublist.refl _) (List.nil_sublist _)) HQ.out (iff_of_true rfl HSAME.out) HSETN.out HP.out.inv HNM.out.1 HNM.out.2 HP.out.tx HP.out.ty HR0.out HR1.out (by first | exact hEI | exact hEI.below hbS) HWL.out.1 HWL.out.2 (subE_up HP.out.tx.up m) HP.out.rd0.1 (by have := HP.out.rd0; omega) HSET.out.1 (by have := HSET.out; omega)).mono ?_; rintro e wZ ⟨rfl, hbZ⟩; have hBZ := HBT.out _ _ (by assumption) hbZ; obtain ⟨q0, q1⟩ := HCX.out _ hBZ
        try go_wp2_with fail
        refine hK.out _ _ (by (try dsimp only); go_keep) (fun hHeld => ?_)
        clear hK K
        (try simp only [Act.put, put_s])
        refine take_d16k (v := ?_) 24 12 rfl (by kernel_rfl) (Or.inl ⟨by rfl, ?_⟩) (by assumption) ?_
        rotate_left
        · intro w hSw; (try dsimp only at hSw); go_simp; try with_reducible rfl
        (try simp only [Act.put, put_s])
        refine wpAnyH_done (by kernel_rfl) ?_ _
        go_wp2_with fail
        go_ret
        exact ⟨rfl, (HS6.out.calm hBZ).below⟩
      · have q1 : ((x : Int) == 0) = false := by simp; omega
        have q2 : ((y : Int) == 0) = false := by simp; omega
        clear hres hxy hx
        have HBT : Hid (∀ u v : World, Below w6.heap.size w6 u → Below u.heap.size u v → Below w6.heap.size w6 v) := fun u v h1 h2 => h1.trans (h2.mono h1.size)
        have HCX : Hid (∀ wx, Below w6.heap.size w6 wx → wx.cell? ⟨q, 0, none⟩ = some (.slice da N dc) ∧ wx.cell? ⟨q, 1, none⟩ = some (.slice db M dd)) := fun wx hb => HCEL.out (bs' := []) (HS6.out.calm hb)
        have HEL : Hid (∀ wx, Below w6.heap.size w6 wx → EnsAt wx la l ∧ EnsAt wx ma m) := fun wx hb => ⟨ens_row (w := wx) (B := w.heap.size) (c := lc) HP.out.ll.1 ((HS6.out.calm hb).rows _ HRL.out.1) HP.out.wl, ens_row (w := wx) (B := w.heap.size) (c := mc) HP.out.lm.1 ((HS6.out.calm hb).rows _ HRL.out.2) HP.out.wm⟩
        obtain ⟨WL, hWL⟩ : ∃ n, (subE l m).length = n := ⟨_, rfl⟩
        have HWL : Hid ((subE l m).length = WL ∧ WL ≤ 65536) := ⟨hWL, by have h1 := subE_len l m; have h2 := HP.out.ll; omega⟩
        clear hWL
        have HREF : Hid (∀ wx, Below w6.heap.size w6 wx → Calls Tryz.prog 25 #[.slice la L lc, .slice ma M1 mc] wx (fun e w' => ∃ a c, e = .returned (.slice a WL c) ∧ EnsAt w' a (subE l m) ∧ Below wx.heap.size wx w')) := fun wx hb => (subtract_any (HEL.out wx hb).1 HP.out.ll.1 (by have := HP.out.ll; omega) (HEL.out wx hb).2 HP.out.lm.1 (by have := HP.out.lm; omega)).mono fun e w' h => made_ens h (subE_wf m HP.out.wl) HWL.out.1
        have hbd : Below w6.heap.size w6 w6.drew := (Below.refl _ _).drew
        obtain ⟨q0, q1⟩ := HCX.out _ (Below.refl _ _)
        go_upto_region 16 with fail
        go_region_held3 (fun w' => w'.cell? ⟨q, 0, none⟩ = some (.slice da N dc) ∧ w'.cell? ⟨q, 1, none⟩ = some (.slice db M dd)) (go_keep) (first
          | (go_at_call 25; refine (HREF.out _ (by assumption)).mono ?_; rintro e wI ⟨ai, ci, rfl, hEI, hbI⟩; have hBI := HBT.out _ _ (by assumption) hbI; obtain ⟨q0, q1⟩ := HCX.out _ hBI)
          | (go_at_call 19; refine (HSO.out _).mono ?_; rintro e wS ⟨rfl, hbS⟩; have hBS := HBT.out _ _ (by assumption) hbS; obtain ⟨q0, q1⟩ := HCX.out _ hBS)
          | (go_at_call 17; refine (checked_any HCHK.out ((HS6.out.calm (by assumption)).less (List.Sublist.refl _) (List.nil_sublist _)) HQ.out (iff_of_true rfl HSAME.out) HSETN.out HP.out.inv HNM.out.1 HNM.out.2 HP.out.tx HP.out.ty HR0.out HR1.out (by first | exact hEI | exact hEI.below hbS) HWL.out.1 HWL.out.2 (subE_up HP.out.tx.up m) HP.out.rd0.1 (by have := HP.out.rd0; omega) HSET.out.1 (by have := HSET.out; omega)).mono ?_; rintro e wZ ⟨rfl, hbZ⟩; have hBZ := HBT.out _ _ (by assumption) hbZ; obtain ⟨q0, q1⟩ := HCX.out _ hBZ))
        all_goals (go_wp2_with fail; go_ret; exact ⟨rfl, (HS6.out.calm hBZ).below⟩)
    · have hres : (if x = y then 0 else x) = x := if_neg hxy
      rw [hres] at HQ
      have q3 : ((x : Int) == (y : Int)) = false := by simp; omega
      have q5 : ((x : Int) != (y : Int)) = true := by simp; omega
      by_cases hx : x = 0
      · have q1 : ((x : Int) == 0) = true := by simp [hx]
        have HSAME : Hid (x = 0 ∨ y = 0 ∨ x = y) := .inl hx
        clear hres hxy hx
        have HBT : Hid (∀ u v : World, Below w6.heap.size w6 u → Below u.heap.size u v → Below w6.heap.size w6 v) := fun u v h1 h2 => h1.trans (h2.mono h1.size)
        have HCX : Hid (∀ wx, Below w6.heap.size w6 wx → wx.cell? ⟨q, 0, none⟩ = some (.slice da N dc) ∧ wx.cell? ⟨q, 1, none⟩ = some (.slice db M dd)) := fun wx hb => HCEL.out (bs' := []) (HS6.out.calm hb)
        have HEL : Hid (∀ wx, Below w6.heap.size w6 wx → EnsAt wx la l ∧ EnsAt wx ma m) := fun wx hb => ⟨ens_row (w := wx) (B := w.heap.size) (c := lc) HP.out.ll.1 ((HS6.out.calm hb).rows _ HRL.out.1) HP.out.wl, ens_row (w := wx) (B := w.heap.size) (c := mc) HP.out.lm.1 ((HS6.out.calm hb).rows _ HRL.out.2) HP.out.wm⟩
        obtain ⟨WL, hWL⟩ : ∃ n, (subE l m).length = n := ⟨_, rfl⟩
        have HWL : Hid ((subE l m).length = WL ∧ WL ≤ 65536) := ⟨hWL, by have h1 := subE_len l m; have h2 := HP.out.ll; omega⟩
        clear hWL
        have HREF : Hid (∀ wx, Below w6.heap.size w6 wx → Calls Tryz.prog 25 #[.slice la L lc, .slice ma M1 mc] wx (fun e w' => ∃ a c, e = .returned (.slice a WL c) ∧ EnsAt w' a (subE l m) ∧ Below wx.heap.size wx w')) := fun wx hb => (subtract_any (HEL.out wx hb).1 HP.out.ll.1 (by have := HP.out.ll; omega) (HEL.out wx hb).2 HP.out.lm.1 (by have := HP.out.lm; omega)).mono fun e w' h => made_ens h (subE_wf m HP.out.wl) HWL.out.1
        have hbd : Below w6.heap.size w6 w6.drew := (Below.refl _ _).drew
        obtain ⟨q0, q1⟩ := HCX.out _ (Below.refl _ _)
        go_upto_region 16 with fail
        refine wp_region_held_drew (S := (fun w' => w'.cell? ⟨q, 0, none⟩ = some (.slice da N dc) ∧ w'.cell? ⟨q, 1, none⟩ = some (.slice db M dd))) (by kernel_rfl) (by (try dsimp only); go_keep) (fun hHeld => ?_)
        refine take_d16k (v := ?_) 0 105 rfl (by kernel_rfl) (Or.inl ⟨by rfl, ?_⟩) (by assumption) ?_
        rotate_left
        · intro w hSw; (try dsimp only at hSw); go_simp; try with_reducible rfl
        (try simp only [Act.put, put_s])
        refine take_d16k (v := ?_) 1 106 rfl (by kernel_rfl) (Or.inl ⟨by rfl, ?_⟩) (by assumption) ?_
        rotate_left
        · intro w hSw; (try dsimp only at hSw); go_simp; try with_reducible rfl
        (try simp only [Act.put, put_s])
        refine take_d16k (v := ?_) 2 107 rfl (by kernel_rfl) (Or.inl ⟨by rfl, ?_⟩) (by assumption) ?_
        rotate_left
        · intro w hSw; (try dsimp only at hSw); go_simp; try with_reducible rfl
        (try simp only [Act.put, put_s])
        refine take_d16k (v := ?_) 3 108 rfl (by kernel_rfl) (Or.inl ⟨by rfl, ?_⟩) (by assumption) ?_
        rotate_left
        · intro w hSw; (try dsimp only at hSw); go_simp; try with_reducible rfl
        (try simp only [Act.put, put_s])
        refine take_d16k (v := ?_) 4 109 rfl (by kernel_rfl) (Or.inl ⟨by rfl, ?_⟩) (by assumption) ?_
        rotate_left
        · intro w hSw; (try dsimp only at hSw); go_simp; try with_reducible rfl
        (try simp only [Act.put, put_s])
        refine take_d16k (v := ?_) 5 110 rfl (by kernel_rfl) (Or.inl ⟨by rfl, ?_⟩) (by assumption) ?_
        rotate_left
        · intro w hSw; (try dsimp only at hSw); go_simp; try with_reducible rfl
        (try simp only [Act.put, put_s])
        refine take_d16k (v := ?_) 6 111 rfl (by kernel_rfl) (Or.inl ⟨by rfl, ?_⟩) (by assumption) ?_
        rotate_left
        · intro w hSw; (try dsimp only at hSw); go_simp; try with_reducible rfl
        (try simp only [Act.put, put_s])
        refine take_d16k (v := ?_) 7 112 rfl (by kernel_rfl) (Or.inl ⟨by rfl, ?_⟩) (by assumption) ?_
        rotate_left
        · intro w hSw; (try dsimp only at hSw); go_simp; try with_reducible rfl
        (try simp only [Act.put, put_s])
        refine take_d16k (v := ?_) 8 113 rfl (by kernel_rfl) (Or.inl ⟨by rfl, ?_⟩) (by assumption) ?_
        rotate_left
        · intro w hSw; (try dsimp only at hSw); go_simp; try with_reducible rfl
        (try simp only [Act.put, put_s])
        refine take_d16k (v := ?_) 10 115 rfl (by kernel_rfl) (Or.inl ⟨by rfl, ?_⟩) (by assumption) ?_
        rotate_left
        · intro w hSw; (try dsimp only at hSw); go_simp; try with_reducible rfl
        (try simp only [Act.put, put_s])
        refine take_d16k (v := ?_) 11 116 rfl (by kernel_rfl) (Or.inl ⟨by rfl, ?_⟩) (by assumption) ?_
        rotate_left
        · intro w hSw; (try dsimp only at hSw); go_simp; try with_reducible rfl
        (try simp only [Act.put, put_s])
        refine take_d16k (v := ?_) 21 126 rfl (by kernel_rfl) (Or.inl ⟨by rfl, ?_⟩) (by assumption) ?_
        rotate_left
        · intro w hSw; (try dsimp only at hSw); go_simp; try with_reducible rfl
        (try simp only [Act.put, put_s])
        refine take_d16k (v := ?_) 22 127 rfl (by kernel_rfl) (Or.inl ⟨by rfl, ?_⟩) (by assumption) ?_
        rotate_left
        · intro w hSw; (try dsimp only at hSw); go_simp; try with_reducible rfl
        (try simp only [Act.put, put_s])
        refine wpAnyH_ready (rs := [9]) (by kernel_rfl) (by simp) ?_
        refine AllReadyH.cons (o := _) rfl (fun K hK => ?_) AllReadyH.nil
        go_simp
        go_at_call 25; refine (HREF.out _ (by assumption)).mono ?_; rintro e wI ⟨ai, ci, rfl, hEI, hbI⟩; have hBI := HBT.out _ _ (by assumption) hbI; obtain ⟨q0, q1⟩ := HCX.out _ hBI
        try go_wp2_with fail
        refine hK.out _ _ (by (try dsimp only); go_keep) (fun hHeld => ?_)
        clear hK K
        (try simp only [Act.put, put_s])
        refine take_d16k (v := ?_) 12 117 rfl (by kernel_rfl) (Or.inl ⟨by rfl, ?_⟩) (by assumption) ?_
        rotate_left
        · intro w hSw; (try dsimp only at hSw); go_simp; try with_reducible rfl
        (try simp only [Act.put, put_s])
        refine take_d16k (v := undef) 13 118 rfl (by kernel_rfl) (Or.inr ⟨by kernel_rfl, rfl⟩) (by assumption) ?_
        (try simp only [Act.put, put_s])
        refine take_d16k (v := undef) 14 119 rfl (by kernel_rfl) (Or.inr ⟨by kernel_rfl, rfl⟩) (by assumption) ?_
        (try simp only [Act.put, put_s])
        refine take_d16k (v := ?_) 15 120 rfl (by kernel_rfl) (Or.inl ⟨by rfl, ?_⟩) (by assumption) ?_
        rotate_left
        · intro w hSw; (try dsimp only at hSw); go_simp; try with_reducible rfl
        (try simp only [Act.put, put_s])
        refine take_d16k (v := ?_) 16 121 rfl (by kernel_rfl) (Or.inl ⟨by rfl, ?_⟩) (by assumption) ?_
        rotate_left
        · intro w hSw; (try dsimp only at hSw); go_simp; try with_reducible rfl
        (try simp only [Act.put, put_s])
        refine take_d16k (v := undef) 17 122 rfl (by kernel_rfl) (Or.inr ⟨by kernel_rfl, rfl⟩) (by assumption) ?_
        (try simp only [Act.put, put_s])
        refine take_d16k (v := undef) 18 123 rfl (by kernel_rfl) (Or.inr ⟨by kernel_rfl, rfl⟩) (by assumption) ?_
        (try simp only [Act.put, put_s])
        refine take_d16k (v := undef) 19 124 rfl (by kernel_rfl) (Or.inr ⟨by kernel_rfl, rfl⟩) (by assumption) ?_
        (try simp only [Act.put, put_s])
        refine take_d16k (v := ?_) 20 125 rfl (by kernel_rfl) (Or.inl ⟨by rfl, ?_⟩) (by assumption) ?_
        rotate_left
        · intro w hSw; (try dsimp only at hSw); go_simp; try with_reducible rfl
        (try simp only [Act.put, put_s])
        refine wpAnyH_ready (rs := [23]) (by kernel_rfl) (by simp) ?_
        refine AllReadyH.cons (o := _) rfl (fun K hK => ?_) AllReadyH.nil
        go_simp
        go_at_call 17; refine (checked_any HCHK.out ((HS6.out.calm (by assumption)).less (List.Sublist.refl _) (List.nil_sublist _)) HQ.out (iff_of_true rfl HSAME.out) HSETN.out HP.out.inv HNM.out.1 HNM.out.2 HP.out.tx HP.out.ty HR0.out HR1.out (by first | exact hEI | exact hEI.below hbS) HWL.out.1 HWL.out.2 (subE_up HP.out.tx.up m) HP.out.rd0.1 (by have := HP.out.rd0; omega) HSET.out.1 (by have := HSET.out; omega)).mono ?_; rintro e wZ ⟨rfl, hbZ⟩; have hBZ := HBT.out _ _ (by assumption) hbZ; obtain ⟨q0, q1⟩ := HCX.out _ hBZ
        try go_wp2_with fail
        refine hK.out _ _ (by (try dsimp only); go_keep) (fun hHeld => ?_)
        clear hK K
        (try simp only [Act.put, put_s])
        refine take_d16k (v := ?_) 24 12 rfl (by kernel_rfl) (Or.inl ⟨by rfl, ?_⟩) (by assumption) ?_
        rotate_left
        · intro w hSw; (try dsimp only at hSw); go_simp; try with_reducible rfl
        (try simp only [Act.put, put_s])
        refine wpAnyH_done (by kernel_rfl) ?_ _
        go_wp2_with fail
        go_ret
        exact ⟨rfl, (HS6.out.calm hBZ).below⟩
      · have q1 : ((x : Int) == 0) = false := by simp; omega
        by_cases hy : y = 0
        · have q2 : ((y : Int) == 0) = true := by simp [hy]
          have HSAME : Hid (x = 0 ∨ y = 0 ∨ x = y) := .inr (.inl hy)
          clear hres hxy hx hy
          have HBT : Hid (∀ u v : World, Below w6.heap.size w6 u → Below u.heap.size u v → Below w6.heap.size w6 v) := fun u v h1 h2 => h1.trans (h2.mono h1.size)
          have HCX : Hid (∀ wx, Below w6.heap.size w6 wx → wx.cell? ⟨q, 0, none⟩ = some (.slice da N dc) ∧ wx.cell? ⟨q, 1, none⟩ = some (.slice db M dd)) := fun wx hb => HCEL.out (bs' := []) (HS6.out.calm hb)
          have HEL : Hid (∀ wx, Below w6.heap.size w6 wx → EnsAt wx la l ∧ EnsAt wx ma m) := fun wx hb => ⟨ens_row (w := wx) (B := w.heap.size) (c := lc) HP.out.ll.1 ((HS6.out.calm hb).rows _ HRL.out.1) HP.out.wl, ens_row (w := wx) (B := w.heap.size) (c := mc) HP.out.lm.1 ((HS6.out.calm hb).rows _ HRL.out.2) HP.out.wm⟩
          obtain ⟨WL, hWL⟩ : ∃ n, (subE l m).length = n := ⟨_, rfl⟩
          have HWL : Hid ((subE l m).length = WL ∧ WL ≤ 65536) := ⟨hWL, by have h1 := subE_len l m; have h2 := HP.out.ll; omega⟩
          clear hWL
          have HREF : Hid (∀ wx, Below w6.heap.size w6 wx → Calls Tryz.prog 25 #[.slice la L lc, .slice ma M1 mc] wx (fun e w' => ∃ a c, e = .returned (.slice a WL c) ∧ EnsAt w' a (subE l m) ∧ Below wx.heap.size wx w')) := fun wx hb => (subtract_any (HEL.out wx hb).1 HP.out.ll.1 (by have := HP.out.ll; omega) (HEL.out wx hb).2 HP.out.lm.1 (by have := HP.out.lm; omega)).mono fun e w' h => made_ens h (subE_wf m HP.out.wl) HWL.out.1
          have hbd : Below w6.heap.size w6 w6.drew := (Below.refl _ _).drew
          obtain ⟨q0, q1⟩ := HCX.out _ (Below.refl _ _)
          go_upto_region 16 with fail
          refine wp_region_held_drew (S := (fun w' => w'.cell? ⟨q, 0, none⟩ = some (.slice da N dc) ∧ w'.cell? ⟨q, 1, none⟩ = some (.slice db M dd))) (by kernel_rfl) (by (try dsimp only); go_keep) (fun hHeld => ?_)
          refine take_d16k (v := ?_) 0 105 rfl (by kernel_rfl) (Or.inl ⟨by rfl, ?_⟩) (by assumption) ?_
          rotate_left
          · intro w hSw; (try dsimp only at hSw); go_simp; try with_reducible rfl
          (try simp only [Act.put, put_s])
          refine take_d16k (v := ?_) 1 106 rfl (by kernel_rfl) (Or.inl ⟨by rfl, ?_⟩) (by assumption) ?_
          rotate_left
          · intro w hSw; (try dsimp only at hSw); go_simp; try with_reducible rfl
          (try simp only [Act.put, put_s])
          refine take_d16k (v := ?_) 2 107 rfl (by kernel_rfl) (Or.inl ⟨by rfl, ?_⟩) (by assumption) ?_
          rotate_left
          · intro w hSw; (try dsimp only at hSw); go_simp; try with_reducible rfl
          (try simp only [Act.put, put_s])
          refine take_d16k (v := ?_) 3 108 rfl (by kernel_rfl) (Or.inl ⟨by rfl, ?_⟩) (by assumption) ?_
          rotate_left
          · intro w hSw; (try dsimp only at hSw); go_simp; try with_reducible rfl
          (try simp only [Act.put, put_s])
          refine take_d16k (v := ?_) 4 109 rfl (by kernel_rfl) (Or.inl ⟨by rfl, ?_⟩) (by assumption) ?_
          rotate_left
          · intro w hSw; (try dsimp only at hSw); go_simp; try with_reducible rfl
          (try simp only [Act.put, put_s])
          refine take_d16k (v := ?_) 5 110 rfl (by kernel_rfl) (Or.inl ⟨by rfl, ?_⟩) (by assumption) ?_
          rotate_left
          · intro w hSw; (try dsimp only at hSw); go_simp; try with_reducible rfl
          (try simp only [Act.put, put_s])
          refine take_d16k (v := ?_) 6 111 rfl (by kernel_rfl) (Or.inl ⟨by rfl, ?_⟩) (by assumption) ?_
          rotate_left
          · intro w hSw; (try dsimp only at hSw); go_simp; try with_reducible rfl
          (try simp only [Act.put, put_s])
          refine take_d16k (v := ?_) 7 112 rfl (by kernel_rfl) (Or.inl ⟨by rfl, ?_⟩) (by assumption) ?_
          rotate_left
          · intro w hSw; (try dsimp only at hSw); go_simp; try with_reducible rfl
          (try simp only [Act.put, put_s])
          refine take_d16k (v := ?_) 8 113 rfl (by kernel_rfl) (Or.inl ⟨by rfl, ?_⟩) (by assumption) ?_
          rotate_left
          · intro w hSw; (try dsimp only at hSw); go_simp; try with_reducible rfl
          (try simp only [Act.put, put_s])
          refine take_d16k (v := ?_) 10 115 rfl (by kernel_rfl) (Or.inl ⟨by rfl, ?_⟩) (by assumption) ?_
          rotate_left
          · intro w hSw; (try dsimp only at hSw); go_simp; try with_reducible rfl
          (try simp only [Act.put, put_s])
          refine take_d16k (v := ?_) 11 116 rfl (by kernel_rfl) (Or.inl ⟨by rfl, ?_⟩) (by assumption) ?_
          rotate_left
          · intro w hSw; (try dsimp only at hSw); go_simp; try with_reducible rfl
          (try simp only [Act.put, put_s])
          refine take_d16k (v := ?_) 21 126 rfl (by kernel_rfl) (Or.inl ⟨by rfl, ?_⟩) (by assumption) ?_
          rotate_left
          · intro w hSw; (try dsimp only at hSw); go_simp; try with_reducible rfl
          (try simp only [Act.put, put_s])
          refine take_d16k (v := ?_) 22 127 rfl (by kernel_rfl) (Or.inl ⟨by rfl, ?_⟩) (by assumption) ?_
          rotate_left
          · intro w hSw; (try dsimp only at hSw); go_simp; try with_reducible rfl
          (try simp only [Act.put, put_s])
          refine wpAnyH_ready (rs := [9]) (by kernel_rfl) (by simp) ?_
          refine AllReadyH.cons (o := _) rfl (fun K hK => ?_) AllReadyH.nil
          go_simp
          go_at_call 25; refine (HREF.out _ (by assumption)).mono ?_; rintro e wI ⟨ai, ci, rfl, hEI, hbI⟩; have hBI := HBT.out _ _ (by assumption) hbI; obtain ⟨q0, q1⟩ := HCX.out _ hBI
          try go_wp2_with fail
          refine hK.out _ _ (by (try dsimp only); go_keep) (fun hHeld => ?_)
          clear hK K
          (try simp only [Act.put, put_s])
          refine take_d16k (v := ?_) 12 117 rfl (by kernel_rfl) (Or.inl ⟨by rfl, ?_⟩) (by assumption) ?_
          rotate_left
          · intro w hSw; (try dsimp only at hSw); go_simp; try with_reducible rfl
          (try simp only [Act.put, put_s])
          refine take_d16k (v := ?_) 13 118 rfl (by kernel_rfl) (Or.inl ⟨by rfl, ?_⟩) (by assumption) ?_
          rotate_left
          · intro w hSw; (try dsimp only at hSw); go_simp; try with_reducible rfl
          (try simp only [Act.put, put_s])
          refine take_d16k (v := ?_) 14 119 rfl (by kernel_rfl) (Or.inl ⟨by rfl, ?_⟩) (by assumption) ?_
          rotate_left
          · intro w hSw; (try dsimp only at hSw); go_simp; try with_reducible rfl
          (try simp only [Act.put, put_s])
          refine take_d16k (v := ?_) 15 120 rfl (by kernel_rfl) (Or.inl ⟨by rfl, ?_⟩) (by assumption) ?_
          rotate_left
          · intro w hSw; (try dsimp only at hSw); go_simp; try with_reducible rfl
          (try simp only [Act.put, put_s])
          refine take_d16k (v := ?_) 16 121 rfl (by kernel_rfl) (Or.inl ⟨by rfl, ?_⟩) (by assumption) ?_
          rotate_left
          · intro w hSw; (try dsimp only at hSw); go_simp; try with_reducible rfl
          (try simp only [Act.put, put_s])
          refine take_d16k (v := undef) 17 122 rfl (by kernel_rfl) (Or.inr ⟨by kernel_rfl, rfl⟩) (by assumption) ?_
          (try simp only [Act.put, put_s])
          refine take_d16k (v := undef) 18 123 rfl (by kernel_rfl) (Or.inr ⟨by kernel_rfl, rfl⟩) (by assumption) ?_
          (try simp only [Act.put, put_s])
          refine take_d16k (v := undef) 19 124 rfl (by kernel_rfl) (Or.inr ⟨by kernel_rfl, rfl⟩) (by assumption) ?_
          (try simp only [Act.put, put_s])
          refine take_d16k (v := ?_) 20 125 rfl (by kernel_rfl) (Or.inl ⟨by rfl, ?_⟩) (by assumption) ?_
          rotate_left
          · intro w hSw; (try dsimp only at hSw); go_simp; try with_reducible rfl
          (try simp only [Act.put, put_s])
          refine wpAnyH_ready (rs := [23]) (by kernel_rfl) (by simp) ?_
          refine AllReadyH.cons (o := _) rfl (fun K hK => ?_) AllReadyH.nil
          go_simp
          go_at_call 17; refine (checked_any HCHK.out ((HS6.out.calm (by assumption)).less (List.Sublist.refl _) (List.nil_sublist _)) HQ.out (iff_of_true rfl HSAME.out) HSETN.out HP.out.inv HNM.out.1 HNM.out.2 HP.out.tx HP.out.ty HR0.out HR1.out (by first | exact hEI | exact hEI.below hbS) HWL.out.1 HWL.out.2 (subE_up HP.out.tx.up m) HP.out.rd0.1 (by have := HP.out.rd0; omega) HSET.out.1 (by have := HSET.out; omega)).mono ?_; rintro e wZ ⟨rfl, hbZ⟩; have hBZ := HBT.out _ _ (by assumption) hbZ; obtain ⟨q0, q1⟩ := HCX.out _ hBZ
          try go_wp2_with fail
          refine hK.out _ _ (by (try dsimp only); go_keep) (fun hHeld => ?_)
          clear hK K
          (try simp only [Act.put, put_s])
          refine take_d16k (v := ?_) 24 12 rfl (by kernel_rfl) (Or.inl ⟨by rfl, ?_⟩) (by assumption) ?_
          rotate_left
          · intro w hSw; (try dsimp only at hSw); go_simp; try with_reducible rfl
          (try simp only [Act.put, put_s])
          refine wpAnyH_done (by kernel_rfl) ?_ _
          go_wp2_with fail
          go_ret
          exact ⟨rfl, (HS6.out.calm hBZ).below⟩
        · have q2 : ((y : Int) == 0) = false := by simp; omega
          have HNS : Hid (¬ (x = 0 ∨ y = 0 ∨ x = y)) := fun h => by rcases h with h | h | h; exact hx h; exact hy h; exact hxy h
          clear hres hxy hx hy
          have HBT : Hid (∀ u v : World, Below w6.heap.size w6 u → Below u.heap.size u v → Below w6.heap.size w6 v) := fun u v h1 h2 => h1.trans (h2.mono h1.size)
          have HCX : Hid (∀ wx, Below w6.heap.size w6 wx → wx.cell? ⟨q, 0, none⟩ = some (.slice da N dc) ∧ wx.cell? ⟨q, 1, none⟩ = some (.slice db M dd)) := fun wx hb => HCEL.out (bs' := []) (HS6.out.calm hb)
          have HEL : Hid (∀ wx, Below w6.heap.size w6 wx → EnsAt wx la l ∧ EnsAt wx ma m) := fun wx hb => ⟨ens_row (w := wx) (B := w.heap.size) (c := lc) HP.out.ll.1 ((HS6.out.calm hb).rows _ HRL.out.1) HP.out.wl, ens_row (w := wx) (B := w.heap.size) (c := mc) HP.out.lm.1 ((HS6.out.calm hb).rows _ HRL.out.2) HP.out.wm⟩
          obtain ⟨WL, hWL⟩ : ∃ n, (subE l m).length = n := ⟨_, rfl⟩
          have HWL : Hid ((subE l m).length = WL ∧ WL ≤ 65536) := ⟨hWL, by have h1 := subE_len l m; have h2 := HP.out.ll; omega⟩
          clear hWL
          have HREF : Hid (∀ wx, Below w6.heap.size w6 wx → Calls Tryz.prog 25 #[.slice la L lc, .slice ma M1 mc] wx (fun e w' => ∃ a c, e = .returned (.slice a WL c) ∧ EnsAt w' a (subE l m) ∧ Below wx.heap.size wx w')) := fun wx hb => (subtract_any (HEL.out wx hb).1 HP.out.ll.1 (by have := HP.out.ll; omega) (HEL.out wx hb).2 HP.out.lm.1 (by have := HP.out.lm; omega)).mono fun e w' h => made_ens h (subE_wf m HP.out.wl) HWL.out.1
          have hbd : Below w6.heap.size w6 w6.drew := (Below.refl _ _).drew
          obtain ⟨q0, q1⟩ := HCX.out _ (Below.refl _ _)
          go_upto_region 16 with fail
          go_region_held3 (fun w' => w'.cell? ⟨q, 0, none⟩ = some (.slice da N dc) ∧ w'.cell? ⟨q, 1, none⟩ = some (.slice db M dd)) (go_keep) (first
            | (go_at_call 25; refine (HREF.out _ (by assumption)).mono ?_; rintro e wI ⟨ai, ci, rfl, hEI, hbI⟩; have hBI := HBT.out _ _ (by assumption) hbI; obtain ⟨q0, q1⟩ := HCX.out _ hBI)
            | (go_at_call 19; refine (HSO.out _).mono ?_; rintro e wS ⟨rfl, hbS⟩; have hBS := HBT.out _ _ (by assumption) hbS; obtain ⟨q0, q1⟩ := HCX.out _ hBS)
            | (go_at_call 17; refine (checked_any HCHK.out ((HS6.out.calm (by assumption)).less (List.Sublist.refl _) (List.nil_sublist _)) HQ.out (iff_of_false (by decide) HNS.out) HSETN.out HP.out.inv HNM.out.1 HNM.out.2 HP.out.tx HP.out.ty HR0.out HR1.out (by first | exact hEI | exact hEI.below hbS) HWL.out.1 HWL.out.2 (subE_up HP.out.tx.up m) HP.out.rd0.1 (by have := HP.out.rd0; omega) HSET.out.1 (by have := HSET.out; omega)).mono ?_; rintro e wZ ⟨rfl, hbZ⟩; have hBZ := HBT.out _ _ (by assumption) hbZ; obtain ⟨q0, q1⟩ := HCX.out _ hBZ))
          all_goals (go_wp2_with fail; go_ret; exact ⟨rfl, (HS6.out.calm hBZ).below⟩)
end Go.Proofs.YtfihklpofmcfgaaGreat
