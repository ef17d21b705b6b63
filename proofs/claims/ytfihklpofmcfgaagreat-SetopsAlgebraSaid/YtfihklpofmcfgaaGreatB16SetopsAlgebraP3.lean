/- Of the proof of B16SetopsAlgebraP: StPair, StRoom, LawStAlg. -/
import Derived.Test.YtfihklpofmcfgaaGreatB16SetopsAlgebraP2
import Derived.Deep.QuietTactic
import Derived.Deep.DeepCutAuto
set_option linter.unusedVariables false
set_option linter.unusedSimpArgs false
namespace Go.Proofs.YtfihklpofmcfgaaGreat
open Go.RowKit
theorem spare16_any (n need : Int) (w : World) (h0 : 0 ≤ n) (h1 : n < 65536) (h2 : 0 ≤ need) (h3 : need ≤ 1000000) : Calls Tryz.prog 34 #[.int .u16 n, .int .i64 need] w (SpareQ need w) := by
  have v0 : IntKind.i64.wrap n = n := by rw [IntKind.wrap_i64]; omega
  have v1 : IntKind.i64.wrap (need + 2) = need + 2 := by rw [IntKind.wrap_i64]; omega
  have hne : ¬ need + 2 = 0 := by omega
  by_cases h4 : n.tmod 4 = 0
  · obtain ⟨r, hr⟩ : ∃ r : Nat, n.tmod (need + 2) = (r : Int) := ⟨(n.tmod (need + 2)).toNat, by rw [Int.tmod_eq_emod_of_nonneg h0]; have := Int.emod_nonneg n (b := need + 2) hne; omega⟩
    have hrl : (r : Int) ≤ need + 8 := by rw [← hr, Int.tmod_eq_emod_of_nonneg h0]; have := Int.emod_lt_of_pos n (b := need + 2) (by omega); omega
    have HR := Lib.hid hrl
    have h4b : (n.tmod 4 == 0) = true := by rw [h4]; rfl
    clear hrl h0 h1 h2 h3 h4
    go_enter Tryz.func34, Tryz.ntmps34
    go_wp2_with fail
    go_ret
    exact ⟨r, rfl, HR.out, rfl⟩
  · obtain ⟨r, hr⟩ : ∃ r : Nat, n.tmod 9 = (r : Int) := ⟨(n.tmod 9).toNat, by rw [Int.tmod_eq_emod_of_nonneg h0]; omega⟩
    have hrl : (r : Int) ≤ 8 := by rw [← hr, Int.tmod_eq_emod_of_nonneg h0]; omega
    have v2 : IntKind.i64.wrap (r : Int) = (r : Int) := by rw [IntKind.wrap_i64]; omega
    have v3 : IntKind.i64.wrap (need + (r : Int)) = need + (r : Int) := by rw [IntKind.wrap_i64]; omega
    obtain ⟨s, hs⟩ : ∃ s : Nat, need + (r : Int) = (s : Int) := ⟨(need + r).toNat, by omega⟩
    have HS : Hid (need + (r : Int) = (s : Int) ∧ (s : Int) ≤ need + 8) := ⟨hs, by omega⟩
    have h4b : (n.tmod 4 == 0) = false := by simpa using h4
    clear hrl h0 h1 h2 h3 h4 hs
    go_enter Tryz.func34, Tryz.ntmps34
    go_wp2_with fail
    go_ret
    first | exact ⟨s, rfl, HS.out.2, rfl⟩ | exact ⟨s, by rw [HS.out.1]; rfl, HS.out.2, rfl⟩
set_option maxHeartbeats 1000000 in
set_option maxRecDepth 100000 in
theorem refDelete16_any {w : World} {a : Option Addr} {n c : Nat} {l : List En} (k : Int) (h : EnsAt w a l) (hn : l.length = n) (hl : n ≤ 1000000) :
    Calls Tryz.prog 39 #[.slice a n c, .int .i64 k] w (MadeEns w (outE l k k)) := by
  have HC := Lib.hid (outside_any (c := c) k k h hn hl)
  clear h hn hl
  go_enter Tryz.func39, Tryz.ntmps39
  go_wp2_with fail
  refine HC.out.mono ?_
  rintro e w1 ⟨xa, xc, rfl, hr, hb⟩
  have HR : Hid (MadeEns w (outE l k k) (.returned (.slice xa (outE l k k).length xc)) w1) := ⟨xa, xc, rfl, hr, hb⟩
  generalize (outE l k k).length = LN at HR ⊢
  clear hr hb
  go_wp2_with fail
  go_ret
  exact HR.out
theorem outE_len (l : List En) (lo hi : Int) : (outE l lo hi).length ≤ l.length := List.length_filter_le _ _
structure Paired16 (I : AImpl) (w : World) (p : Value) (A : Ar) (x y : Nat) (tx ty : Tr) (l m : List En) (rd : Int) (L M : Nat) (la ma : Option Addr) (lc mc : Nat) (rs : List Row) (w' : World) : Prop where
  scn : Scn I w.heap.size w w' p A rd rs []
  rl : (⟨69, 2, .slice la L lc, L, ensV l⟩ : Row) ∈ rs
  rm : (⟨69, 2, .slice ma M mc, M, ensV m⟩ : Row) ∈ rs
  inv : A.Inv [] (hof [x, y])
  agg : A.Agg
  tx : TreeAt A x tx l
  ty : TreeAt A y ty m
  wl : WfL l
  wm : WfL m
  ll : l.length = L ∧ L ≤ 70
  lm : m.length = M ∧ M ≤ 76
  rd0 : 0 ≤ rd ∧ rd ≤ 1000000000
def PairRes16 (I : AImpl) (w : World) (e : Ending) (w' : World) : Prop :=
  ∃ (p : Value) (A : Ar) (x y : Nat) (tx ty : Tr) (l m : List En) (rd : Int) (L M : Nat) (la ma : Option Addr) (lc mc : Nat) (rs : List Row), e = .returned (.tuple #[p, .int .u32 (x : Int), .int .u32 (y : Int), .slice la L lc, .slice ma M mc, .bool true]) ∧ Paired16 I w p A x y tx ty l m rd L M la ma lc mc rs w' ∧ rd ≤ 100000
def PrRel (I : AImpl) (w : World) (p : Value) (x : Nat) (tx : Tr) (l : List En) (L : Nat) (la : Option Addr) (lc ED : Nat) (INS : Int) (kV yV mV : Value) (wr : World) : Prop :=
  ∃ (k y M mc : Nat) (A : Ar) (ty : Tr) (m : List En) (ma : Option Addr) (rd : Int) (rs : List Row), kV = .int .i64 (k : Int) ∧ yV = .int .u32 (y : Int) ∧ mV = .slice ma M mc ∧ k ≤ ED ∧ Scn I w.heap.size w wr p A rd rs [] ∧ (⟨69, 2, .slice la L lc, L, ensV l⟩ : Row) ∈ rs ∧ (⟨69, 2, .slice ma M mc, M, ensV m⟩ : Row) ∈ rs ∧
    A.Inv [] (hof [x, y]) ∧ A.Agg ∧ TreeAt A x tx l ∧ TreeAt A y ty m ∧ WfL m ∧ m.length = M ∧ M ≤ L + k ∧ 0 ≤ rd ∧ rd ≤ 6000 * (k : Int) ∧ ((ED : Int) - (k : Int)) * INS ≤ (A.σ.free.length : Int)
set_option maxHeartbeats 16000000 in
set_option maxRecDepth 100000 in
theorem pair16_any (I : AImpl) (KU : UpdImpl I) {a b : Option Addr} {n c k d : Nat} {raw other : List En} {tilt free : Int} {dv : Bool} {w : World} (hE : EnsAt w a raw) (hn : raw.length = n) (hnm : n ≤ 9223372036854775807) (hE' : EnsAt w b other) (hk : other.length = k) (hkm : k ≤ 9223372036854775807) (ht0 : 0 ≤ tilt) (ht1 : tilt < 18446744073709551616) (hf0 : 0 ≤ free) (hf1 : free < 65536) :
    Calls Tryz.prog 8 #[.slice a n c, .slice b k d, .int .u64 tilt, .bool dv, .int .u16 free] w (PairRes16 I w) := by
  have HKU := Lib.hid KU
  have HF : Hid (0 ≤ free ∧ free < 65536) := ⟨hf0, hf1⟩
  have HT : Hid (0 ≤ tilt ∧ tilt < 18446744073709551616) := ⟨ht0, ht1⟩
  have HEO := Lib.hid hE'
  have HKO : Hid (other.length = k ∧ k ≤ 9223372036854775807) := ⟨hk, hkm⟩
  have HWL : Hid (WfL (listE raw 70)) := fun y hy => hE.wf y (listE_mem hy)
  have HWM : Hid (WfL (listE other 70)) := fun y hy => hE'.wf y (listE_mem hy)
  have HL1 := Lib.hid (list_any (c := c) (k := 70) hE hn hnm (by decide))
  have HUL := Lib.hid (listE_up raw 70)
  have HUM := Lib.hid (listE_up other 70)
  have HLL := Lib.hid (listE_len raw 70)
  have HLM := Lib.hid (listE_len other 70)
  obtain ⟨ED, hED⟩ : ∃ ED : Nat, min k 6 = ED := ⟨_, rfl⟩
  have HED : Hid (ED ≤ 6 ∧ ED ≤ k) := ⟨by omega, by omega⟩
  have hmin : ∀ (w : World) (ts : Array TypeId) (t : TypeId), (Builtin.min_ ts t #[.int .i64 (k : Int), .int .i64 6]).run Tryz.prog w = .ok (.int .i64 (ED : Int)) w := fun w ts t => by
    rw [min_run]
    congr 2
    omega
  have hki : (k : Int) ≤ 9223372036854775807 := by omega
  have hED6 : (ED : Int) ≤ 6 := by omega
  have hEDk : (ED : Int) ≤ (k : Int) := by omega
  clear KU hE hn hnm hE' hk hkm ht0 ht1 hf0 hf1 hED
  go_enter Tryz.func8, Tryz.ntmps8
  go_wp2_with fail
  refine HL1.out.mono ?_
  rintro e w1 ⟨la, lc, rfl, hr1, hb1⟩
  have HR1 := Lib.hid hr1
  have HB1 := Lib.hid hb1
  clear hr1 hb1 HL1
  generalize listE raw 70 = l at HUL HLL HWL HR1 ⊢
  obtain ⟨L, hL⟩ : ∃ L, l.length = L := ⟨_, rfl⟩
  rw [hL] at HLL HR1 ⊢
  have HLN : Hid (l.length = L ∧ L ≤ 70) := ⟨hL, HLL.out⟩
  have hLi : (L : Int) ≤ 70 := by have := HLN.out; omega
  clear hL HLL
  go_wp2_with fail
  refine (list_any (c := d) (k := 70) (HEO.out.below HB1.out) HKO.out.1 HKO.out.2 (by decide)).mono ?_
  rintro e w2 ⟨ma, mc, rfl, hr2, hb2⟩
  have HR2 := Lib.hid hr2
  have HB2 := Lib.hid hb2
  clear hr2 hb2
  generalize listE other 70 = m at HUM HLM HWM HR2 ⊢
  obtain ⟨M, hM⟩ : ∃ M, m.length = M := ⟨_, rfl⟩
  rw [hM] at HLM HR2 ⊢
  have HMN : Hid (m.length = M ∧ M ≤ 70) := ⟨hM, HLM.out⟩
  have hMi : (M : Int) ≤ 70 := by have := HMN.out; omega
  clear hM HLM
  have HST := Lib.hid (set_pos (n := L) (m := M) (by omega))
  have HSO : Hid (∀ wx, Calls Tryz.prog 19 #[.int .i64 (L : Int), .int .i64 (M : Int)] wx (Calm wx (.int .i64 (setI (L : Int) (M : Int))))) := fun wx => refSetOperation_any _ _ _ ⟨by omega, by omega⟩ ⟨by omega, by omega⟩
  generalize setI (L : Int) (M : Int) = S1 at HST HSO
  go_wp2_with fail
  refine (HSO.out w2).mono ?_
  rintro e w3 ⟨rfl, hb3⟩
  have HB3 := Lib.hid hb3
  clear hb3 HSO
  go_wp2_with fail
  refine (spare16_any free S1 w3 HF.out.1 HF.out.2 HST.out.1 (by have := HST.out; omega)).mono ?_
  rintro e w3' ⟨sp, rfl, hsp, rfl⟩
  have HSP : Hid ((sp : Int) ≤ 2000) := by have := HST.out; show _ ≤ _; omega
  clear hsp
  obtain ⟨E1, hE1⟩ : ∃ E1 : Nat, L + ED = E1 := ⟨_, rfl⟩
  have hE1i : (L : Int) + (ED : Int) = (E1 : Int) := by omega
  have hE1b : (E1 : Int) ≤ 76 := by omega
  have HINS := Lib.hid (ins_pos (n := E1) (by omega))
  have HINM : Hid (∀ j : Nat, j ≤ E1 → insI (j : Int) ≤ insI (E1 : Int) ∧ delI (j : Int) ≤ insI (E1 : Int)) := fun j hj => ⟨ins_mono hj (by omega), del_ins hj (by omega)⟩
  have HSO2 : Hid (∀ wx, Calls Tryz.prog 19 #[.int .i64 (L : Int), .int .i64 (E1 : Int)] wx (Calm wx (.int .i64 (setI (L : Int) (E1 : Int))))) := fun wx => refSetOperation_any _ _ _ ⟨by omega, by omega⟩ ⟨by omega, by omega⟩
  have HST2 := Lib.hid (set_pos (n := L) (m := E1) (by omega))
  have HIN : Hid (∀ wx, Calls Tryz.prog 35 #[.int .i64 (E1 : Int)] wx (Calm wx (.int .i64 (insI (E1 : Int))))) := fun wx => refInsert_any _ _ ⟨by omega, by omega⟩
  generalize setI (L : Int) (E1 : Int) = S2 at HST2 HSO2
  obtain ⟨INS, hINS⟩ : ∃ I : Int, insI (E1 : Int) = I := ⟨_, rfl⟩
  rw [hINS] at HINS HINM HIN
  have HEE : Hid (L + ED = E1) := hE1
  have hpr : 0 ≤ (ED : Int) * INS ∧ (ED : Int) * INS ≤ 2400 := by
    have h1 := HINS.out
    have h2 := HED.out.1
    refine ⟨Int.mul_nonneg (by omega) h1.1, ?_⟩
    have h3 : (ED : Int) * INS ≤ 6 * INS := Int.mul_le_mul_of_nonneg_right (by omega) h1.1
    omega
  obtain ⟨PR, hPR⟩ : ∃ P : Int, (ED : Int) * INS = P := ⟨_, rfl⟩
  rw [hPR] at hpr
  have HPR : Hid ((ED : Int) * INS = PR ∧ 0 ≤ PR ∧ PR ≤ 2400) := ⟨hPR, hpr⟩
  clear hINS hE1
  go_upto_if 48 with fail
  go_cut [19] from 49 to 65 (fun s19 wx => ∃ room : Nat, s19 = .int .i64 (room : Int) ∧ room ≤ 5000 ∧ (dv = true → PR ≤ (room : Int)) ∧ Below w3'.heap.size w3' wx)
  case first =>
    cases dv with
    | false =>
      go_wp2_with fail
      go_meet
      exact ⟨sp, rfl, by have := HSP.out; omega, (fun h => by cases h), Below.refl _ _⟩
    | true =>
      have v1 : IntKind.i64.wrap ((L : Int) + (ED : Int)) = (E1 : Int) := by rw [IntKind.wrap_i64]; omega
      have v2 : IntKind.i64.wrap ((ED : Int) * INS) = PR := by rw [hPR, IntKind.wrap_i64]; omega
      clear hPR hpr
      go_wp2_with fail
      refine (HSO2.out w3').mono ?_
      rintro e w4 ⟨rfl, hb4⟩
      have HB4 := Lib.hid hb4
      clear hb4
      go_wp2_with fail
      refine (spare16_any free S2 w4 HF.out.1 HF.out.2 HST2.out.1 (by have := HST2.out; omega)).mono ?_
      rintro e w4' ⟨sp2, rfl, hsp2, rfl⟩
      have HSP2 : Hid ((sp2 : Int) ≤ 2000) := by have := HST2.out; show _ ≤ _; omega
      have hs20 : (0 : Int) ≤ (sp2 : Int) := by omega
      have hs2i : (sp2 : Int) ≤ 2000 := HSP2.out
      have v3 : IntKind.i64.wrap ((sp2 : Int) + PR) = (sp2 : Int) + PR := by have := HPR.out; rw [IntKind.wrap_i64]; omega
      clear hsp2
      go_wp2_with fail
      refine (HIN.out w4').mono ?_
      rintro e w5 ⟨rfl, hb5⟩
      have HB5 : Hid (Below w3'.heap.size w3' w5) := HB4.out.trans (hb5.mono HB4.out.size)
      clear hb5
      go_wp2_with fail
      go_meet
      obtain ⟨room, hroom⟩ : ∃ r : Nat, (sp2 : Int) + PR = (r : Int) := ⟨((sp2 : Int) + PR).toNat, by have := HPR.out; omega⟩
      exact ⟨room, by rw [hroom], by have := HPR.out; omega, fun _ => by have := HPR.out; omega, HB5.out⟩
  case' rest =>
    rename World => w4
    obtain ⟨room, rfl, hroom, hdv, hb4⟩ := hcut
    have HRM : Hid (room ≤ 5000 ∧ (dv = true → PR ≤ (room : Int))) := ⟨hroom, hdv⟩
    have HB4 : Hid (Below w2.heap.size w2 w4) := HB3.out.trans (hb4.mono HB3.out.size)
    have hroomi : (room : Int) ≤ 5000 := by omega
    have hroom0 : (0 : Int) ≤ (room : Int) := by omega
    clear hroom hdv hb4 HB3 hPR hpr
    obtain ⟨N, hN⟩ : ∃ N : Nat, L + M + 1 + room = N := ⟨_, rfl⟩
    have v4 : IntKind.i64.wrap ((L : Int) + (M : Int)) = (L : Int) + (M : Int) := by rw [IntKind.wrap_i64]; omega
    have v5 : IntKind.i64.wrap ((L : Int) + (M : Int) + 1) = (L : Int) + (M : Int) + 1 := by rw [IntKind.wrap_i64]; omega
    have v6 : IntKind.i64.wrap ((L : Int) + (M : Int) + 1 + (room : Int)) = (N : Int) := by rw [IntKind.wrap_i64]; omega
    have HNN : Hid (L + M + 1 + room = N ∧ N ≤ 6000) := ⟨hN, by omega⟩
    clear hN
    go_wp2_with fail
    refine (I.new_ok N w4 (by have := HNN.out; omega) (by have := HNN.out; omega)).mono ?_
    rintro e w5 ⟨p, F, rfl, hI, hF, hb5⟩
    obtain ⟨pa, rfl⟩ := I.ptr hI
    have HB24 : Hid (Below w1.heap.size w1 w4) := HB2.out.trans (HB4.out.mono HB2.out.size)
    have hr1 : w4.ownsRow w.heap.size 69 2 (.slice la L lc) L (ensV l) := row_below HR1.out HB24.out
    have hr2 : w4.ownsRow w1.heap.size 69 2 (.slice ma M mc) M (ensV m) := row_below HR2.out HB4.out
    have hs5 : Scn I w.heap.size w w5 (.pointer (some pa)) (Ar.init N) 0 [⟨69, 2, .slice ma M mc, M, ensV m⟩, ⟨69, 2, .slice la L lc, L, ensV l⟩] [] := by
      refine Scn.initRows hI hF hb5 (HB1.out.trans (HB24.out.mono HB1.out.size)) (fun r hr => ?_) (List.pairwise_cons.2 ⟨fun r hr k h1 h2 => ?_, List.pairwise_singleton _ _⟩)
      · simp at hr
        rcases hr with rfl | rfl
        · exact row_mono hr2 HB1.out.size
        · exact hr1
      · simp at hr
        subst hr
        have h3 := (row_lt hr2 k h1).1
        have h4 := (row_lt HR1.out k h2).2
        omega
    have HS5 := Lib.hid hs5
    have HI0 : Hid ((Ar.init N).Inv [] (fun _ => 0) ∧ (Ar.init N).Agg ∧ (Ar.init N).σ.free.length = N) := ⟨Ar.init_inv (by have := HNN.out; omega) (by have := HNN.out; omega), Ar.init_agg _, by show (List.range' 1 N).length = _; simp⟩
    have HCL : Hid (L ≤ lc ∧ lc ≤ maxLen) := row_caps hr1
    have HCM : Hid (M ≤ mc ∧ mc ≤ maxLen) := row_caps hr2
    generalize Ar.init N = A at HS5 HI0
    clear hI hF hb5 hs5 hr1 hr2 HB24 HR1 HR2 HB2 HB4 v4 v5 v6
    have hbk : ∀ (xs : List Row) (v : Value) (g off nn cc : Nat), v = .slice (some ⟨g, off, none⟩) nn cc → nn ≠ 0 → (∃ r ∈ xs, r.v = v) → True := fun _ _ _ _ _ _ _ _ _ => trivial
    clear hbk
    go_wp2_with fail
    refine (HS5.out.plant (c := lc) HLN.out.1 HI0.out.1 HI0.out.2.1 (fun j => by have := HLN.out; omega) (by have := HI0.out; have := HNN.out; omega) (ens_row (w := w5) (B := w.heap.size) (c := lc) HLN.out.1 (HS5.out.rows ⟨69, 2, .slice la L lc, L, ensV l⟩ (by simp)) HWL.out) (fun h0 b' off' h => .inr (.inl ⟨⟨69, 2, .slice la L lc, L, ensV l⟩, by simp, own_blk (HS5.out.rows ⟨69, 2, .slice la L lc, L, ensV l⟩ (by simp)) h0 h⟩)) HCL.out.1 HCL.out.2 HT.out.1 HT.out.2).mono ?_
    rintro e w6 ⟨A1, x, tx, rfl, hp1, hs6⟩
    have HP1 := Lib.hid hp1
    have HS6 := Lib.hid hs6
    have HF1 : Hid (A1.σ.free.length = M + 1 + room) := by have h1 := hp1.free; have h2 := HI0.out.2.2; have h3 := HLN.out.1; have h4 := HNN.out; show _ = _; omega
    have HH1 : Hid (pls (fun _ => 0) x = hof [x]) := by have h := hof_pls [] x; rw [hof_nil] at h; exact h
    clear hp1 hs6 HS5 HI0
    cases dv with
    | false =>
      obtain ⟨T3, hT3⟩ : ∃ T, IntKind.u64.wrap (tilt * 3) = T := ⟨_, rfl⟩
      obtain ⟨T4, hT4⟩ : ∃ T, IntKind.u64.wrap (T3 + 1) = T := ⟨_, rfl⟩
      have HT4 : Hid (0 ≤ T4 ∧ T4 < 18446744073709551616) := by show _ ∧ _; rw [← hT4]; exact u64_in _
      go_wp2_with fail
      refine (HS6.out.plant (c := mc) HMN.out.1 HP1.out.inv HP1.out.agg (fun j => by have := HMN.out; rw [pls_at]; split <;> omega) (by have := HF1.out; omega) (ens_row (w := w6) (B := w.heap.size) (c := mc) HMN.out.1 (HS6.out.rows ⟨69, 2, .slice ma M mc, M, ensV m⟩ (by simp)) HWM.out) (fun h0 b' off' h => .inr (.inl ⟨⟨69, 2, .slice ma M mc, M, ensV m⟩, by simp, own_blk (HS6.out.rows ⟨69, 2, .slice ma M mc, M, ensV m⟩ (by simp)) h0 h⟩)) HCM.out.1 HCM.out.2 HT4.out.1 HT4.out.2).mono ?_
      rintro e w7 ⟨A2, y, ty, rfl, hp2, hs7⟩
      have HRES : Hid (PairRes16 I w (.returned (.tuple #[.pointer (some pa), .int .u32 (x : Int), .int .u32 (y : Int), .slice la L lc, .slice ma M mc, .bool true])) w7) :=
        ⟨_, A2, x, y, tx, ty, l, m, 0, L, M, la, ma, lc, mc, _, rfl, ⟨hs7, by simp, by simp, by have := hp2.inv; rw [HH1.out, hof_pls] at this; exact this, hp2.agg, (HP1.out.tree HUL.out).kept hp2.kept hp2.inv hp2.agg, hp2.tree HUM.out, HWL.out, HWM.out, HLN.out, ⟨HMN.out.1, by have := HMN.out; omega⟩, by decide, by decide⟩, by decide⟩
      clear hp2 hs7 hT3 hT4
      go_wp2_with fail
      (try simp only [Exit.inBlock, Exit.then])
      refine bodyPost_ret (results_tmp6 rfl _ _ _) rfl ?_
      exact HRES.out
    | true =>
      have HXI : Hid (x < 4294967296) := (HP1.out.tree HUL.out).idx
      go_wp2_with fail
      refine (HS6.out.retain (l := [x]) (by have := HP1.out.inv; rw [HH1.out] at this; exact this) HP1.out.agg (by simp) HP1.out.sub.idx HXI.out).mono ?_
      rintro e w7 ⟨rfl, hv7, ha7, hk7, hσ7, hs7⟩
      have HR0 : Hid (PrRel I w (.pointer (some pa)) x tx l L la lc ED INS (.int .i64 0) (.int .u32 (x : Int)) (.slice la L lc) w7) :=
        ⟨0, x, L, lc, A1.ret x, tx, l, la, 0, _, rfl, rfl, rfl, Nat.zero_le _, hs7, by simp, by simp, hv7, ha7, (HP1.out.tree HUL.out).kept hk7 hv7 ha7, (HP1.out.tree HUL.out).kept hk7 hv7 ha7, HWL.out, HLN.out.1, by omega, by decide, by decide, by
          have h1 := HPR.out.1
          have h2 := HRM.out.2 (by simp)
          have h3 := HF1.out
          rw [hσ7, h3]
          show ((ED : Int) - ((0 : Nat) : Int)) * INS ≤ _
          rw [show (ED : Int) - ((0 : Nat) : Int) = (ED : Int) by omega, h1]
          omega⟩
      have HXT : Hid (TreeAt A1 x tx l) := HP1.out.tree HUL.out
      clear hv7 ha7 hk7 hσ7 hs7 HS6 HP1 HF1
      go_wp2_with fail
      go_loopw [27, 26, 17] (fun kV yV mV wr => PrRel I w (.pointer (some pa)) x tx l L la lc ED INS kV yV mV wr) (fun kV _ _ _ => ED - (intOf kV).toNat)
      case atStart => exact HR0.out
      case round =>
        clear HR0
        obtain ⟨i, y, M1, mc1, A2, ty, m1, ma1, rd, rs, rfl, rfl, rfl, hi, hs, hrl, hrm, hv, ha, htx, hty, hwm, hlm, hml, hrd0, hrd1, hfr⟩ := hrel
        have HS := Lib.hid hs
        have HRW : Hid ((⟨69, 2, .slice la L lc, L, ensV l⟩ : Row) ∈ rs ∧ (⟨69, 2, .slice ma1 M1 mc1, M1, ensV m1⟩ : Row) ∈ rs) := ⟨hrl, hrm⟩
        have HV := Lib.hid hv
        have HA := Lib.hid ha
        have HTX := Lib.hid htx
        have HTY := Lib.hid hty
        have HM1 : Hid (WfL m1 ∧ m1.length = M1 ∧ M1 ≤ L + i ∧ i ≤ ED) := ⟨hwm, hlm, hml, hi⟩
        have HRD : Hid (0 ≤ rd ∧ rd ≤ 6000 * (i : Int)) := ⟨hrd0, hrd1⟩
        have HFR := Lib.hid hfr
        have hi0 : (0 : Int) ≤ (i : Int) := by omega
        have hM1i : (M1 : Int) ≤ 76 := by have := HED.out; omega
        clear hi hs hrl hrm hv ha htx hty hwm hlm hml hrd0 hrd1 hfr
        by_cases hlt : i < ED
        · have hii : (i : Int) < (ED : Int) := by omega
          have hik : (i : Int) < (k : Int) := by omega
          obtain ⟨oe, hoe⟩ : ∃ e, other[i]? = some e := ⟨_, List.getElem?_eq_getElem (by have := HKO.out; have := HED.out; omega)⟩
          have HOW := Lib.hid (HEO.out.wf oe (List.mem_of_getElem? hoe))
          have HOE := Lib.hid hoe
          have HLT := Lib.hid hlt
          have HRO : Hid (INS ≤ (A2.σ.free.length : Int) ∧ ((ED : Int) - ((i + 1 : Nat) : Int)) * INS + INS ≤ (A2.σ.free.length : Int)) := by
            have h1 := HFR.out
            have h2 : ((ED : Int) - (i : Int)) * INS = ((ED : Int) - ((i + 1 : Nat) : Int)) * INS + INS := by
              rw [show (ED : Int) - (i : Int) = ((ED : Int) - ((i + 1 : Nat) : Int)) + 1 by omega, Int.add_mul, Int.one_mul]
            have h3 : 0 ≤ ((ED : Int) - ((i + 1 : Nat) : Int)) * INS := Int.mul_nonneg (by omega) HINS.out.1
            exact ⟨by omega, by omega⟩
          clear hoe hlt HFR
          go_upto_region 22 with fail
          go_cut [128] from 121 to 128 (fun s128 wx => ∃ bb : Bool, s128 = .bool bb ∧ (bb = true → 0 < M1) ∧ wr = wx)
          case first =>
            by_cases hM0 : M1 = 0
            · have hm0 : (M1 : Int) = 0 := by omega
              have hd : decide ((M1 : Int) > 0) = false := decide_eq_false (by omega)
              have hd2 : decide ((0 : Int) < (M1 : Int)) = false := decide_eq_false (by omega)
              have hd3 : ¬ 0 < M1 := by omega
              clear hM0
              by_cases h3 : (i : Int) % 3 = 2
              · have hq1 : ((i : Int) % 3 == 2) = true := by simp [h3]
                go_wp2_with fail
                go_meet
                exact ⟨false, rfl, (fun h => by cases h), rfl⟩
              · have hq1 : ((i : Int) % 3 == 2) = false := by simp [h3]
                go_wp2_with fail
                go_meet
                exact ⟨false, rfl, (fun h => by cases h), rfl⟩
            · have hd : decide ((M1 : Int) > 0) = true := decide_eq_true (by omega)
              have hd2 : decide ((0 : Int) < (M1 : Int)) = true := decide_eq_true (by omega)
              have hd3 : 0 < M1 := by omega
              clear hM0
              by_cases h3 : (i : Int) % 3 = 2
              · have hq1 : ((i : Int) % 3 == 2) = true := by simp [h3]
                go_wp2_with fail
                go_meet
                exact ⟨true, rfl, (fun _ => hd3), rfl⟩
              · have hq1 : ((i : Int) % 3 == 2) = false := by simp [h3]
                go_wp2_with fail
                go_meet
                exact ⟨false, rfl, (fun h => by cases h), rfl⟩
          case' rest =>
            obtain ⟨bb, rfl, hbb, rfl⟩ := hcut
            have HBB := Lib.hid hbb
            clear hbb
            go_upto_if 128 with fail
            go_cut [28, 29, 30, 31] from 129 to 170 (fun s28 s29 s30 s31 wx => ∃ (z M2 mc2 : Nat) (A3 : Ar) (tz : Tr) (m2 : List En) (ma2 : Option Addr) (rd2 : Int) (rs2 : List Row) (kv : Value), s28 = .int .u32 (z : Int) ∧ s29 = .int .i64 0 ∧ s30 = .slice ma2 M2 mc2 ∧ s31 = kv ∧ Scn I w.heap.size w wx (.pointer (some pa)) A3 rd2 rs2 [] ∧ (⟨69, 2, .slice la L lc, L, ensV l⟩ : Row) ∈ rs2 ∧ (⟨69, 2, .slice ma2 M2 mc2, M2, ensV m2⟩ : Row) ∈ rs2 ∧
              A3.Inv [] (hof [x, y, z]) ∧ A3.Agg ∧ TreeAt A3 x tx l ∧ TreeAt A3 z tz m2 ∧ WfL m2 ∧ m2.length = M2 ∧ M2 ≤ M1 + 1 ∧ rd ≤ rd2 ∧ rd2 ≤ rd + 5000 ∧ (A2.σ.free.length : Int) ≤ (A3.σ.free.length : Int) + INS)
            case first =>
              have HHS : Hid (∀ j, hof [x, y] j ≤ 1048000) := fun j => by have := hof_le [x, y] j; simp at this; omega
              have HUB := Lib.hid (upd_bd (n := m1.length) (by have := HM1.out; have := HLN.out; have := HED.out; omega))
              have HINJ : Hid (insI (m1.length : Int) ≤ INS ∧ delI (m1.length : Int) ≤ INS) := by rw [HM1.out.2.1]; exact HINM.out M1 (by have := HM1.out; have := HEE.out; omega)
              cases bb with
              | false =>
                obtain ⟨g, off, rfl, -, c0, c1⟩ := (HEO.out.below HS.out.below).at HOE.out
                go_wp2_with fail
                refine (HS.out.mut fun F hI => HKU.out.insert oe wr hI HV.out HHS.out HTY.out HM1.out.1 HRD.out.1 (by have := HRD.out; have := HED.out; have := HM1.out; omega) HOW.out.1 HOW.out.2).mono ?_
                rintro e w8 ⟨A3, rd2, hq, hs8⟩
                obtain ⟨g0, g1, z, tz, xv, bv, rfl, hg, hfr⟩ := insQ_left hq HTY.out.up HINJ.out.1 HINS.out.1 HRO.out.1
                have HS8 := Lib.hid hs8
                have HG := Lib.hid hg
                have HTZ := Lib.hid (hg.tree (insE_up oe HTY.out.up))
                have HR8 : Hid (rd ≤ rd2 ∧ rd2 ≤ rd + 5000 ∧ (A2.σ.free.length : Int) ≤ (A3.σ.free.length : Int) + INS) := ⟨g0, by have := HUB.out; omega, hfr⟩
                clear c0 c1 hq hs8 hg g0 g1 hfr
                obtain ⟨g', off', hgg, -, c0, c1⟩ := (HEO.out.below HS8.out.below).at HOE.out
                simp at hgg
                obtain ⟨rfl, rfl⟩ := hgg
                have hins := insert_any (c := mc1) oe (ens_row (w := w8) (B := w.heap.size) (c := mc1) HM1.out.2.1 (HS8.out.rows ⟨69, 2, .slice ma1 M1 mc1, M1, ensV m1⟩ HRW.out.2) HM1.out.1) HOW.out (by have := HM1.out; have := HLN.out; have := HED.out; omega)
                rw [HM1.out.2.1] at hins
                have HINS2 := Lib.hid hins
                clear hins
                go_wp2_with fail
                refine HINS2.out.mono ?_
                rintro e w9 ⟨ma2, mc2, rfl, hr9, hb9⟩
                have HS9 := Lib.hid (HS8.out.row hb9 hr9)
                obtain ⟨M2, hM2⟩ : ∃ n, (insE m1 oe).length = n := ⟨_, rfl⟩
                rw [hM2] at HS9 ⊢
                have HM2 : Hid ((insE m1 oe).length = M2 ∧ M2 ≤ M1 + 1 ∧ WfL (insE m1 oe)) := ⟨hM2, by have h1 := insE_len m1 oe; have h2 := HM1.out.2.1; omega, insE_wf HM1.out.1 HOW.out⟩
                clear hr9 hb9 hM2 c0 c1 HINS2 HS8
                go_wp2_with fail
                go_meet
                exact ⟨z, M2, mc2, A3, tz, insE m1 oe, ma2, rd2, _, _, rfl, rfl, rfl, rfl, HS9.out, List.mem_cons_of_mem _ HRW.out.1, List.mem_cons_self, by have := HG.out.inv; rw [hof_pls] at this; exact this, HG.out.agg, HTX.out.kept HG.out.kept HG.out.inv HG.out.agg, HTZ.out, HM2.out.2.2, HM2.out.1, HM2.out.2.1, HR8.out.1, HR8.out.2.1, HR8.out.2.2⟩
              | true =>
                have hM0 := HBB.out rfl
                have hli : (0 : Int) < (M1 : Int) := by omega
                have t1 := Int.tmod_lt_of_pos oe.key (b := 1000) (by decide)
                have t2 := Int.lt_tmod_of_pos oe.key (b := 1000) (by decide)
                obtain ⟨T1, hT1⟩ : ∃ T1, oe.key.tmod 1000 = T1 := ⟨_, rfl⟩
                rw [hT1] at t1 t2
                have p1 := Int.emod_nonneg T1 (b := (M1 : Int)) (by omega)
                have p2 := Int.emod_lt_of_pos T1 (b := (M1 : Int)) (by omega)
                obtain ⟨P, hP⟩ := Int.eq_ofNat_of_zero_le p1
                rw [hP] at p2
                have HMOD : Hid (∀ wx, Calls Tryz.prog 15 #[.int .i64 T1, .int .i64 (M1 : Int)] wx (fun e w' => e = .returned (.int .i64 (P : Int)) ∧ wx = w')) := fun wx => (mod_any T1 (M1 : Int) wx (by omega) (by omega) (by omega) (by omega)).mono fun e w' ⟨h1, h2⟩ => ⟨by rw [h1, hP], h2⟩
                obtain ⟨eP, heP⟩ : ∃ e, m1[P]? = some e := ⟨_, List.getElem?_eq_getElem (by have := HM1.out.2.1; omega)⟩
                have HKP := Lib.hid (HM1.out.1 eP (List.mem_of_getElem? heP)).1
                have HGE : Hid (getE m1 eP.key ≠ none) := by
                  show _ ≠ _
                  rw [get_of HTY.out.up (List.mem_of_getElem? heP)]
                  exact fun h => by cases h
                obtain ⟨g, off, rfl, -, c0, c1⟩ := (HEO.out.below HS.out.below).at HOE.out
                obtain ⟨g2, off2, rfl, -, d0, d1⟩ := (ens_row (w := wr) (B := w.heap.size) (c := mc1) HM1.out.2.1 (HS.out.rows ⟨69, 2, .slice ma1 M1 mc1, M1, ensV m1⟩ HRW.out.2) HM1.out.1).at heP
                have hP0 : (0 : Int) ≤ (P : Int) := by omega
                have hPL : (P : Int) < (M1 : Int) := p2
                have HT12 : Hid (-1000 < T1 ∧ T1 < 1000) := ⟨t2, t1⟩
                clear heP p1 p2 hP t1 t2 c1 d1 hM0
                go_wp2_with fail
                refine (HMOD.out _).mono ?_
                rintro e w8' ⟨rfl, rfl⟩
                go_wp2_with fail
                refine (HS.out.mut fun F hI => HKU.out.delete eP.key wr hI HV.out HHS.out HTY.out HM1.out.1 HRD.out.1 (by have := HRD.out; have := HED.out; have := HM1.out; omega) HKP.out).mono ?_
                rintro e w8 ⟨A3, rd2, hq, hs8⟩
                obtain ⟨g0, g1, z, tz, xv, rfl, hg, hfr⟩ := delQ_left hq HGE.out HINJ.out.2 HRO.out.1
                have HS8 := Lib.hid hs8
                have HG := Lib.hid hg
                have HTZ := Lib.hid (hg.tree (List.Pairwise.filter _ HTY.out.up))
                have HR8 : Hid (rd ≤ rd2 ∧ rd2 ≤ rd + 5000 ∧ (A2.σ.free.length : Int) ≤ (A3.σ.free.length : Int) + INS) := ⟨g0, by have := HUB.out; omega, hfr⟩
                have HINS2 := Lib.hid (refDelete16_any (c := mc1) eP.key (ens_row (w := w8) (B := w.heap.size) (c := mc1) HM1.out.2.1 (HS8.out.rows ⟨69, 2, .slice (some ⟨g2, off2, none⟩) M1 mc1, M1, ensV m1⟩ HRW.out.2) HM1.out.1) HM1.out.2.1 (by have := HM1.out; have := HLN.out; have := HED.out; omega))
                clear c0 d0 hq hs8 hg g0 g1 hfr
                go_wp2_with fail
                refine HINS2.out.mono ?_
                rintro e w9 ⟨ma2, mc2, rfl, hr9, hb9⟩
                have HS9 := Lib.hid (HS8.out.row hb9 hr9)
                obtain ⟨M2, hM2⟩ : ∃ n, (outE m1 eP.key eP.key).length = n := ⟨_, rfl⟩
                rw [hM2] at HS9 ⊢
                have HM2 : Hid ((outE m1 eP.key eP.key).length = M2 ∧ M2 ≤ M1 + 1 ∧ WfL (outE m1 eP.key eP.key)) := ⟨hM2, by have h1 := outE_len m1 eP.key eP.key; have h2 := HM1.out.2.1; omega, fun y hy => HM1.out.1 y (List.mem_filter.1 hy).1⟩
                clear hr9 hb9 hM2 HINS2 HS8
                go_wp2_with fail
                go_meet
                exact ⟨z, M2, mc2, A3, tz, outE m1 eP.key eP.key, ma2, rd2, _, _, rfl, rfl, rfl, rfl, HS9.out, List.mem_cons_of_mem _ HRW.out.1, List.mem_cons_self, by have := HG.out.inv; rw [hof_pls] at this; exact this, HG.out.agg, HTX.out.kept HG.out.kept HG.out.inv HG.out.agg, HTZ.out, HM2.out.2.2, HM2.out.1, HM2.out.2.1, HR8.out.1, HR8.out.2.1, HR8.out.2.2⟩
            case' rest =>
              obtain ⟨z, M2, mc2, A3, tz, m2, ma2, rd2, rs2, kv, rfl, rfl, rfl, rfl, hs9, hrl, hrm, hv3, ha3, htx, htz, hwm, hlm, hml, hrd0, hrd1, hfr⟩ := hcut
              rename World => w9
              have HS9 := Lib.hid hs9
              have HV3 : Hid (A3.Inv [] (hof (y :: [x, z]))) := by
                rw [hof_perm (show [x, y, z].Perm [y, x, z] from List.Perm.swap _ _ _)] at hv3
                exact hv3
              have HXX : Hid (A3.Agg ∧ TreeAt A3 x tx l ∧ TreeAt A3 z tz m2 ∧ WfL m2 ∧ m2.length = M2 ∧ M2 ≤ M1 + 1 ∧ (⟨69, 2, .slice la L lc, L, ensV l⟩ : Row) ∈ rs2 ∧ (⟨69, 2, .slice ma2 M2 mc2, M2, ensV m2⟩ : Row) ∈ rs2) := ⟨ha3, htx, htz, hwm, hlm, hml, hrl, hrm⟩
              have HR9 : Hid (rd ≤ rd2 ∧ rd2 ≤ rd + 5000 ∧ (A2.σ.free.length : Int) ≤ (A3.σ.free.length : Int) + INS) := ⟨hrd0, hrd1, hfr⟩
              clear hs9 hrl hrm hv3 ha3 htx htz hwm hlm hml hrd0 hrd1 hfr
              go_wp2_with fail
              refine (HS9.out.giveBack HV3.out HXX.out.1).mono ?_
              rintro e w10 ⟨mr, rfl, hv4, ha4, -, hfr4, hs10⟩
              have hpos : ∀ u ∈ [x, z], u = 0 ∨ 0 < hof [x, z] u := fun u hu => by
                by_cases h0 : u = 0
                · exact .inl h0
                · exact .inr (hof_pos hu h0)
              have HN : Hid (PrRel I w (.pointer (some pa)) x tx l L la lc ED INS (.int .i64 ((i + 1 : Nat) : Int)) (.int .u32 (z : Int)) (.slice ma2 M2 mc2) w10) :=
                ⟨i + 1, z, M2, mc2, A3.gone y, tz, m2, ma2, rd2, rs2, rfl, rfl, rfl, by have := HLT.out; omega, hs10, HXX.out.2.2.2.2.2.2.1, HXX.out.2.2.2.2.2.2.2, hv4, ha4, HXX.out.2.1.gone hv4 ha4 (hpos x (by simp)), HXX.out.2.2.1.gone hv4 ha4 (hpos z (by simp)), HXX.out.2.2.2.1, HXX.out.2.2.2.2.1, by have h1 := HXX.out.2.2.2.2.2.1; have h2 := HM1.out.2.2.1; omega, by have h1 := HR9.out; have h2 := HRD.out; omega, by have h1 := HR9.out; have h2 := HRD.out; omega, by have h1 := HR9.out.2.2; have h2 := HRO.out.2; omega⟩
              clear hv4 ha4 hfr4 hs10 hpos HS9 HV3
              go_wp2_with fail
              exact ⟨by rw [show ((i : Int) + 1) = ((i + 1 : Nat) : Int) by omega]; exact HN.out, by have := HLT.out; simp [intOf]; omega⟩
        · have hii : ¬ (i : Int) < (ED : Int) := by omega
          have HRES : Hid (PairRes16 I w (.returned (.tuple #[.pointer (some pa), .int .u32 (x : Int), .int .u32 (y : Int), .slice la L lc, .slice ma1 M1 mc1, .bool true])) wr) :=
            ⟨_, A2, x, y, tx, ty, l, m1, rd, L, M1, la, ma1, lc, mc1, _, rfl, ⟨HS.out, HRW.out.1, HRW.out.2, HV.out, HA.out, HTX.out, HTY.out, HWL.out, HM1.out.1, HLN.out, ⟨HM1.out.2.1, by have := HM1.out; have := HLN.out; have := HED.out; omega⟩, HRD.out.1, by have := HRD.out; have := HM1.out; have := HED.out; omega⟩, by have := HRD.out; have := HM1.out; have := HED.out; omega⟩
          clear hlt
          go_wp2_with fail
          (try simp only [Exit.inBlock, Exit.then])
          refine bodyPost_ret (results_tmp6 rfl _ _ _) rfl ?_
          exact HRES.out
theorem results_tmp_cell_tmp {fn : Func} {u p v : Tmp} {ty : TypeId} (h : fn.results = #[.tmp u, .cell p ty, .tmp v]) (tmps : Array Value) (P : Program) (w : World) :
    (results fn tmps).run P w =
      ((asAddr (tmps.getD p undef)).run P w).andThen fun a w₁ => ((loadVar ty a).run P w₁).andThen fun x w₂ => .ok (.tuple #[tmps.getD u undef, x, tmps.getD v undef]) w₂ := by
  simp only [results, h]
  simp [Sem.run_bind, Result.andThen]
theorem results_tmp_row_tmp {P : Program} {fn : Func} {u p v : Tmp} {ty : TypeId} (h : fn.results = #[.tmp u, .cell p ty, .tmp v]) (tmps : Array Value) (w : World) (g : Nat) (t : TypeId) (cs : Array Value) (fr : Nat × Nat) (d : TypeDesc)
    (hp : tmps.getD p undef = .pointer (some ⟨g, 0, none⟩)) (hg : w.heap[g]? = some (.cells cs t fr))
    (hu : P.underlying ty = some d) (hd : (match d with | .struct _ | .array _ _ => true | _ => false) = true) (hi : (P.info? ty).map (·.size) = some cs.size) :
    (results fn tmps).run P w = .ok (.tuple #[tmps.getD u undef, .agg cs, tmps.getD v undef]) w := by
  rw [results_tmp_cell_tmp h]
  simp [hp, asAddr, Result.andThen, run_loadVar_row w g t ty cs fr d hg hu hd hi]
theorem BuildQ.room {A B : Ar} {rd rd' : Int} {held : Nat → Nat} {l : List En} {en : Ending} (h : BuildQ A rd held l en B rd') (hu : Up l) (hr : l.length ≤ A.σ.free.length) :
    rd ≤ rd' ∧ rd' ≤ rd + 16 * (l.length : Int) + 64 ∧ ∃ (j : Nat) (t : Tr), en = .returned (.tuple #[.int .u32 (j : Int), .int .i64 0]) ∧ Got A held B j t l := by
  obtain ⟨h1, h2, h⟩ := h
  refine ⟨h1, h2, ?_⟩
  rcases h with ⟨q, -⟩ | ⟨-, q, -⟩ | ⟨-, -, j, t, rfl, hg, -⟩
  · exact absurd hu q
  · omega
  · exact ⟨j, t, rfl, hg⟩
theorem Duo16.set2 {I : AImpl} {B : Nat} {w0 w : World} {p q : Value} {A C : Ar} {rd rdc : Int} {rs : List Row} {bs : List (Nat × Obj)} {g : Nat} {x0 y0 : Value} {t : TypeId} (h : Duo16 I B w0 w p A rd q C rdc rs ((g, .cells #[x0, y0] t (0, 0)) :: bs)) (x y : Value) :
    Scn I B w0 ((w.setCell ⟨g, 0, none⟩ x).setCell ⟨g, 1, none⟩ y) q C rdc rs ((g, .cells #[x, y] t (0, 0)) :: bs) := h.snd.set2 x y
structure Room16 (C : Ar) (R : List Nat) (T : List Tr) (j1 j2 : Nat) (t1 t2 : Tr) (l m : List En) (rd : Int) : Prop where
  hld : Hld C R T 4000
  len : R.length ≤ 2
  sum : (T.map Tr.size).sum ≤ 150
  t1 : TreeAt C j1 t1 l
  t2 : TreeAt C j2 t2 m
  rd0 : 0 ≤ rd ∧ rd ≤ 10000
def RoomRes (I : AImpl) (B : Nat) (w0 : World) (l m : List En) (rs : List Row) (e : Ending) (w' : World) : Prop :=
  ∃ (pb : Addr) (C : Ar) (R : List Nat) (T : List Tr) (j1 j2 : Nat) (t1 t2 : Tr) (rd : Int), e = .returned (.tuple #[.pointer (some pb), .agg #[.int .u32 (j1 : Int), .int .u32 (j2 : Int)], .bool true]) ∧ Room16 C R T j1 j2 t1 t2 l m rd ∧ Scn I B w0 w' (.pointer (some pb)) C rd rs []
def RoomMid (I : AImpl) (B : Nat) (w0 : World) (p : Value) (A : Ar) (rd : Int) (q : Value) (j1 : Nat) (l m : List En) (rs : List Row) (bs : List (Nat × Obj)) (v17 v18 : Value) (w' : World) : Prop :=
  ∃ (C : Ar) (R : List Nat) (T : List Tr) (j2 : Nat) (t1 t2 : Tr) (rdc : Int), v17 = .int .u32 (j2 : Int) ∧ v18 = .int .i64 0 ∧ Room16 C R T j1 j2 t1 t2 l m rdc ∧ Duo16 I B w0 w' p A rd q C rdc rs bs
set_option maxHeartbeats 16000000 in
set_option maxRecDepth 100000 in
theorem roomy16_any (I : AImpl) (K : BkImpl I) {B : Nat} {w0 w : World} {pa : Addr} {A : Ar} {rd : Int} {rs : List Row} {x y : Nat} {tx ty : Tr} {l m : List En} {la ma : Option Addr} {L M lc mc : Nat} (hS : Scn I B w0 w (.pointer (some pa)) A rd rs [])
    (hrl : (⟨69, 2, .slice la L lc, L, ensV l⟩ : Row) ∈ rs) (hrm : (⟨69, 2, .slice ma M mc, M, ensV m⟩ : Row) ∈ rs) (htx : TreeAt A x tx l) (hty : TreeAt A y ty m) (hwl : WfL l) (hwm : WfL m) (hL : l.length = L ∧ L ≤ 70) (hM : m.length = M ∧ M ≤ 76) (hrd : 0 ≤ rd ∧ rd ≤ 1000000000) :
    Calls Tryz.prog 26 #[.pointer (some pa), .int .u32 (x : Int), .int .u32 (y : Int), .slice la L lc, .slice ma M mc] w (RoomRes I B w0 l m rs) := by
  have HK := Lib.hid K
  have HU : Hid _ := Lib.hid Tryz.underlying50
  have hin : (Tryz.prog.info? 50).map (·.size) = some 2 := by kernel_rfl
  have HI := Lib.hid hin
  have HRL : Hid ((⟨69, 2, .slice la L lc, L, ensV l⟩ : Row) ∈ rs ∧ (⟨69, 2, .slice ma M mc, M, ensV m⟩ : Row) ∈ rs) := ⟨hrl, hrm⟩
  have HT : Hid (TreeAt A x tx l ∧ TreeAt A y ty m) := ⟨htx, hty⟩
  have HXY : Hid (x = y → l = m) := fun e => by
    subst e
    rw [← htx.ents, ← hty.ents, htx.sub.unique hty.sub]
  have HW : Hid (WfL l ∧ WfL m) := ⟨hwl, hwm⟩
  have HL : Hid ((l.length = L ∧ L ≤ 70) ∧ m.length = M ∧ M ≤ 76) := ⟨hL, hM⟩
  have HUP : Hid (Up l ∧ Up m) := ⟨htx.up, hty.up⟩
  have HRD : Hid (0 ≤ rd ∧ rd ≤ 1000000000) := hrd
  have hs1 := hS.box #[.int .u32 0, .int .u32 0] 50
  clear K hS hrl hrm htx hty hwl hwm hL hM hrd hin
  go_enter Tryz.func26, Tryz.ntmps26
  go_upto_region 1 with fail
  generalize w.alloc (.cells #[.int .u32 0, .int .u32 0] 50) = w1 at hs1 ⊢
  generalize w.heap.size = q at hs1 ⊢
  have HS1 := Lib.hid hs1
  clear hs1
  go_wp2_with fail
  refine (I.new_ok 4000 w1 (by omega) (by omega)).mono ?_
  rintro e w2 ⟨p, F, rfl, hI, hF, hb2⟩
  obtain ⟨pb, rfl⟩ := I.ptr hI
  have HD2 := Lib.hid (HS1.out.second hI hF hb2)
  have HH0 : Hid (Hld (Ar.init 4000) [] [] 4000) := ⟨by rw [hof_nil]; exact Ar.init_inv (by omega) (by omega), Ar.init_agg _, fun x hx => (by cases hx), rfl⟩
  generalize Ar.init 4000 = C at HD2 HH0
  clear hI hF hb2 HS1
  have HC1 := Lib.hid (row_caps (HD2.out.rows _ HRL.out.1))
  have HC2 := Lib.hid (row_caps (HD2.out.rows _ HRL.out.2))
  go_wp2_with fail
  refine (HD2.out.mut fun G hI hG => HK.out.build w2 hI HH0.out.inv HH0.out.agg (fun j => HH0.out.small (by simp) j) (ens_row (w := w2) (B := B) (c := lc) HL.out.1.1 (HD2.out.rows _ HRL.out.1) HW.out.1) HL.out.1.1 (by have := HL.out; omega) (fun h0 b' off' h => hG b' (.inl ⟨_, HRL.out.1, own_blk (HD2.out.rows _ HRL.out.1) h0 h⟩)) HC1.out.1 HC1.out.2 (by decide) (by decide)).mono ?_
  rintro e w3 ⟨C1, rd1, hq, hs⟩
  obtain ⟨g0, g1, j1, t1, rfl, hg⟩ := hq.room HUP.out.1 (by have h1 := HH0.out.free; have h2 := HL.out; simp at h1; omega)
  have HT1 := Lib.hid (hg.tree HUP.out.1)
  have HH1 := Lib.hid (HH0.out.got hg)
  have HD3 := Lib.hid hs
  have HRC : Hid (0 ≤ rd1 ∧ rd1 ≤ 5000) := ⟨by omega, by have := HL.out; omega⟩
  have HZ1 : Hid (t1.size ≤ 70) := by have h1 := HT1.out.size; have h2 := HL.out; show _ ≤ _; omega
  clear hq g0 g1 hg hs HD2 HH0
  go_upto_region 6 with fail
  obtain ⟨ne, hne⟩ : ∃ ne : Bool, ((x : Int) != (y : Int)) = ne := ⟨_, rfl⟩
  have HNE := Lib.hid hne
  go_upto_if 39 with fail
  clear hne
  go_cut [17, 18] from 40 to 45 (fun s17 s18 wx => RoomMid I B w0 (.pointer (some pa)) A rd (.pointer (some pb)) j1 l m rs [(q, .cells #[.int .u32 0, .int .u32 0] 50 (0, 0))] s17 s18 wx)
  case first =>
    cases ne with
    | false =>
      have hxy : x = y := by have := HNE.out; simp at this; omega
      have HR : Hid (RoomMid I B w0 (.pointer (some pa)) A rd (.pointer (some pb)) j1 l m rs [(q, .cells #[.int .u32 0, .int .u32 0] 50 (0, 0))] (.int .u32 (j1 : Int)) (.int .i64 0) w3) :=
        ⟨C1, _, _, j1, t1, t1, rd1, rfl, rfl, ⟨HH1.out, by simp, by have := HZ1.out; simp; omega, HT1.out, by rw [← HXY.out hxy]; exact HT1.out, by have := HRC.out; exact ⟨by omega, by omega⟩⟩, HD3.out⟩
      clear hxy
      go_wp2_with fail
      go_meet
      exact HR.out
    | true =>
      go_wp2_with fail
      refine (HD3.out.mut fun G hI hG => HK.out.build w3 hI HH1.out.inv HH1.out.agg (fun j => HH1.out.small (by simp) j) (ens_row (w := w3) (B := B) (c := mc) HL.out.2.1 (HD3.out.rows _ HRL.out.2) HW.out.2) HL.out.2.1 (by have := HL.out; omega) (fun h0 b' off' h => hG b' (.inl ⟨_, HRL.out.2, own_blk (HD3.out.rows _ HRL.out.2) h0 h⟩)) HC2.out.1 HC2.out.2 HRC.out.1 (by have := HRC.out; omega)).mono ?_
      rintro e w4 ⟨C2, rd2, hq, hs⟩
      obtain ⟨g0, g1, j2, t2, rfl, hg⟩ := hq.room HUP.out.2 (by have h1 := HH1.out.free; have h2 := HL.out; have h3 := HZ1.out; simp at h1; omega)
      have HT2 := Lib.hid (hg.tree HUP.out.2)
      have HZ2 : Hid (t2.size ≤ 76) := by have h1 := HT2.out.size; have h2 := HL.out; show _ ≤ _; omega
      have HR : Hid (RoomMid I B w0 (.pointer (some pa)) A rd (.pointer (some pb)) j1 l m rs [(q, .cells #[.int .u32 0, .int .u32 0] 50 (0, 0))] (.int .u32 (j2 : Int)) (.int .i64 0) w4) :=
        ⟨C2, _, _, j2, t1, t2, rd2, rfl, rfl, ⟨HH1.out.got hg, by simp, by have := HZ1.out; have := HZ2.out; simp; omega, HT1.out.kept hg.kept hg.inv hg.agg, HT2.out, by have := HRC.out; have := HL.out; exact ⟨by omega, by omega⟩⟩, hs⟩
      clear hq g0 g1 hg hs
      go_wp2_with fail
      go_meet
      exact HR.out
  case' rest =>
    obtain ⟨C2, R, T, j2, u1, u2, rdc, rfl, rfl, hro, hs⟩ := hcut
    rename World => w5
    have HRO := Lib.hid hro
    have HD5 := Lib.hid hs
    clear hro hs HD3 HRC HH1 HT1 HZ1 HNE HC1 HC2
    go_wp2_with fail
    refine (HD5.out.ens (fun F hI => HK.out.list _ hI HT.out.1 HW.out.1 HRD.out.1 (by have := HRD.out; omega)) HL.out.1.1).mono ?_
    rintro e w6 ⟨a6, c6, rd6, rfl, hr6, hs, g0, g1⟩
    have HR6 := Lib.hid hr6
    have HD6 := Lib.hid hs
    have hb8 := bulk_bd (n := l.length) (m := l.length) (by have := HL.out; omega) (Nat.le_refl _)
    have HRD6 : Hid (0 ≤ rd6 ∧ rd6 ≤ 1000100000) := by have h1 := HRD.out; exact ⟨by omega, by omega⟩
    clear hr6 hs g0 g1 hb8 HD5
    go_wp2_with fail
    refine (same_ens (ens_row (w := w6) (B := w5.heap.size) (c := c6) HL.out.1.1 HR6.out HW.out.1) (ens_row (w := w6) (B := B) (c := lc) HL.out.1.1 (HD6.out.rows _ HRL.out.1) HW.out.1) HL.out.1.1 (by have := HL.out; omega)).mono ?_
    rintro e w7 ⟨rfl, hb⟩
    have HD7 := Lib.hid (HD6.out.calm hb)
    clear hb HD6 HR6
    go_wp2_with fail
    refine (HD7.out.ens (fun F hI => HK.out.list _ hI HT.out.2 HW.out.2 HRD6.out.1 (by have := HRD6.out; omega)) HL.out.2.1).mono ?_
    rintro e w8 ⟨a8, c8, rd8, rfl, hr8, hs, -, -⟩
    have HR8 := Lib.hid hr8
    have HD8 := Lib.hid hs
    clear hr8 hs HD7
    go_wp2_with fail
    refine (same_ens (ens_row (w := w8) (B := w7.heap.size) (c := c8) HL.out.2.1 HR8.out HW.out.2) (ens_row (w := w8) (B := B) (c := mc) HL.out.2.1 (HD8.out.rows _ HRL.out.2) HW.out.2) HL.out.2.1 (by have := HL.out; omega)).mono ?_
    rintro e w9 ⟨rfl, hb⟩
    have hd9 := HD8.out.calm hb
    have hbx := (hd9.boxes (q, .cells #[.int .u32 0, .int .u32 0] 50 (0, 0)) (by simp)).2
    obtain ⟨q0, q1⟩ := two_cells hbx
    have f0 : w9.frozen? ⟨q, 0, none⟩ = false := frozen_of_row _ _ _ _ _ hbx
    have f1 : w9.frozen? ⟨q, 1, none⟩ = false := frozen_of_row _ _ _ _ _ hbx
    have hfin := hd9.set2 (.int .u32 (j1 : Int)) (.int .u32 (j2 : Int))
    have HF := Lib.hid hfin
    clear hb hd9 hbx hfin HD8 HR8
    go_wp2_with fail
    refine bodyPost_ret (results_tmp_row_tmp rfl _ _ q 50 #[.int .u32 (j1 : Int), .int .u32 (j2 : Int)] (0, 0) _ rfl (HF.out.boxes (q, .cells #[.int .u32 (j1 : Int), .int .u32 (j2 : Int)] 50 (0, 0)) (by simp)).2 HU.out rfl HI.out) rfl ?_
    exact ⟨pb, C2, R, T, j1, j2, u1, u2, rdc, rfl, HRO.out, HF.out.less (List.Sublist.refl _) (List.nil_sublist _)⟩
theorem PolQ.room {A B : Ar} {rd rd' pol : Int} {held : Nat → Nat} {l m want : List En} {same : Prop} {res : Nat} {en : Ending} (h : PolQ A rd held l m want pol same res en B rd') (hp : polOk pol) (hr : setI (l.length : Int) (m.length : Int) ≤ (A.σ.free.length : Int)) :
    rd ≤ rd' ∧ rd' ≤ rd + setBd l.length m.length ∧ ∃ (j : Nat) (u : Tr), en = .returned (.tuple #[.int .u32 (j : Int), .int .i64 0]) ∧ Got A held B j u want := by
  rcases h with ⟨h1, -⟩ | ⟨-, h⟩
  · exact absurd hp h1
  · exact h.room hr
set_option maxHeartbeats 16000000 in
set_option maxRecDepth 100000 in
theorem alg_walk (I : AImpl) (K : BkImpl I) (KS : StImpl I) (KU : UpdImpl I) {a b : Option Addr} {n c k d : Nat} {raw other : List En} {tilt : Int} {dv : Bool} {w : World} (hE : EnsAt w a raw) (hn : raw.length = n) (hnm : n ≤ 9223372036854775807) (hE' : EnsAt w b other) (hk : other.length = k) (hkm : k ≤ 9223372036854775807) (ht0 : 0 ≤ tilt) (ht1 : tilt < 18446744073709551616) :
    Calls Tryz.prog 6 #[.slice a n c, .slice b k d, .int .u64 tilt, .bool dv] w (Calm w (.bool true)) := by
  have HK := Lib.hid K
  have HKS := Lib.hid KS
  have HPA := Lib.hid (pair16_any I KU (c := c) (d := d) (dv := dv) (free := 1) hE hn hnm hE' hk hkm ht0 ht1 (by decide) (by decide))
  clear K KS KU hE hn hnm hE' hk hkm ht0 ht1
  go_enter Tryz.func6, Tryz.ntmps6
  go_wp2_with fail
  refine HPA.out.mono ?_
  rintro e w1 ⟨p, A, x, y, tx, ty, l, m, rd, L, M1, la, ma, lc, mc, rs1, rfl, hp, -⟩
  obtain ⟨pa, rfl⟩ : ∃ pa, p = .pointer (some pa) := by
    obtain ⟨F, f1, _⟩ := hp.scn.mr.has
    exact I.ptr f1
  have HP := Lib.hid hp
  have hLi : (L : Int) ≤ 70 := by have := hp.ll.2; omega
  have hMi : (M1 : Int) ≤ 76 := by have := hp.lm.2; omega
  have HUP1 : Hid (Up l) := hp.tx.up
  have HUP2 : Hid (Up m) := hp.ty.up
  have HWF1 : Hid (WfL l) := hp.wl
  have HWF2 : Hid (WfL m) := hp.wm
  have HB1 : Hid (l.length ≤ 70) := by have := hp.ll; show _ ≤ _; omega
  have HB2 : Hid (m.length ≤ 76) := by have := hp.lm; show _ ≤ _; omega
  clear hp HPA
  go_wp2_with fail
  refine (awake16_any I HKS.out w1).mono ?_
  rintro e w2 ⟨rfl, hb2⟩
  have HS2 := Lib.hid (HP.out.scn.calm hb2)
  clear hb2
  go_wp2_with fail
  refine (roomy16_any I HK.out HS2.out HP.out.rl HP.out.rm HP.out.tx HP.out.ty HP.out.wl HP.out.wm HP.out.ll HP.out.lm HP.out.rd0).mono ?_
  rintro e w3 ⟨pb, C, R, T, i1, i2, r1, r2, rdc, rfl, hro, hs3⟩
  have HRO := Lib.hid hro
  have hs4 := hs3.box #[.int .u32 (i1 : Int), .int .u32 (i2 : Int)] 50
  clear hs3 hro HS2
  go_upto_region 5 with fail
  generalize w3.alloc (.cells #[.int .u32 (i1 : Int), .int .u32 (i2 : Int)] 50) = w4 at hs4 ⊢
  generalize w3.heap.size = q at hs4 ⊢
  have HX0 := Lib.hid hs4
  have HH0 := Lib.hid HRO.out.hld
  have HT1 := Lib.hid HRO.out.t1
  have HT2 := Lib.hid HRO.out.t2
  have HRD0 : Hid (0 ≤ rdc ∧ rdc ≤ 10000) := HRO.out.rd0
  have HTS := Lib.hid HRO.out.sum
  have HRL := Lib.hid HRO.out.len
  have HLM : Hid (l.length = L ∧ m.length = M1) := ⟨HP.out.ll.1, HP.out.lm.1⟩
  clear hs4 HRO HP
  have HUP3 : Hid (Up (unionE l m 1)) := unionE_up HUP1.out 1 m l HUP1.out
  have HUP4 : Hid (Up (unionE m l 2)) := unionE_up HUP2.out 2 l m HUP2.out
  have HUP5 : Hid (Up (intE l m 1)) := intE_up HUP1.out _ _
  have HUP6 : Hid (Up (excE l m)) := excE_up HUP1.out
  have HUP7 : Hid (Up (subE (unionE l m 1) (intE l m 1))) := subE_up HUP3.out _
  have HWF3 : Hid (WfL (unionE l m 1)) := unionE_wf HWF1.out HWF2.out
  have HWF5 : Hid (WfL (intE l m 1)) := intE_wf HWF1.out HWF2.out
  have HWF7 : Hid (WfL (subE (unionE l m 1) (intE l m 1))) := subE_wf _ HWF3.out
  have HB3 : Hid ((unionE l m 1).length ≤ 146) := by have := unionE_len l m 1; have := HB1.out; have := HB2.out; show _ ≤ _; omega
  have HB4 : Hid ((unionE m l 2).length ≤ 146) := by have := unionE_len m l 2; have := HB1.out; have := HB2.out; show _ ≤ _; omega
  have HB5 : Hid ((intE l m 1).length ≤ 70) := by have := intE_len l m 1; have := HB1.out; show _ ≤ _; omega
  have HB6 : Hid ((excE l m).length ≤ 146) := by have := excE_len l m; have := HB1.out; have := HB2.out; show _ ≤ _; omega
  have HB7 : Hid ((subE (unionE l m 1) (intE l m 1)).length ≤ 146) := by have := subE_len (unionE l m 1) (intE l m 1); have := HB3.out; show _ ≤ _; omega
  have HUV : Hid (unionE m l 2 = unionE l m 1) := (union_swap HUP1.out HUP2.out).symm
  have HWZ : Hid (excE l m = subE (unionE l m 1) (intE l m 1)) := exc_alg HUP1.out HUP2.out
  have HP1 : Hid (polOk 1 ∧ i64R 1 ∧ polOk 2 ∧ i64R 2) := ⟨⟨by decide, by decide⟩, ⟨by decide, by decide⟩, ⟨by decide, by decide⟩, ⟨by decide, by decide⟩⟩
  have HCEL : Hid (∀ {wx : World} {C : Ar} {rdx : Int} {rs' : List Row}, Scn I w.heap.size w wx (.pointer (some pb)) C rdx rs' [(q, .cells #[.int .u32 (i1 : Int), .int .u32 (i2 : Int)] 50 (0, 0))] → wx.cell? ⟨q, 0, none⟩ = some (.int .u32 (i1 : Int)) ∧ wx.cell? ⟨q, 1, none⟩ = some (.int .u32 (i2 : Int))) := fun {wx C rdx rs'} h => two_cells (h.boxes (q, .cells #[.int .u32 (i1 : Int), .int .u32 (i2 : Int)] 50 (0, 0)) (by simp)).2
  obtain ⟨q0, q1⟩ := HCEL.out HX0.out
  go_wp2_with fail
  refine (HX0.out.mut fun F hI => HKS.out.union 1 _ hI HH0.out.inv (fun j => HH0.out.small (by have := HRL.out; simp; omega) j) HT1.out HT2.out HWF1.out HWF2.out HRD0.out.1 (by have := HRD0.out; omega) HP1.out.2.1).mono ?_
  rintro e v3 ⟨B3, rd3, hq, hs⟩
  obtain ⟨g0, g1, j3, t3, rfl, hg⟩ := hq.room HP1.out.1 (by have h1 := HH0.out.free; have h2 := set_pos (n := l.length) (m := m.length) (by have := HB1.out; have := HB2.out; omega); have h3 := HB1.out; have h4 := HB2.out; have h5 := HTS.out;  (try simp only [List.map_cons, List.map_nil, List.map_append, List.sum_append, List.sum_cons, List.sum_nil, List.cons_append, List.nil_append] at h1); omega)
  clear hq q0 q1
  replace HT1 := Lib.hid (HT1.out.kept hg.kept hg.inv hg.agg)
  replace HT2 := Lib.hid (HT2.out.kept hg.kept hg.inv hg.agg)
  have HT3 := Lib.hid (hg.tree HUP3.out)
  have HZ3 : Hid (t3.size ≤ 146) := by have h1 := HT3.out.size; have h2 := HB3.out; show _ ≤ _; omega
  have HX3 := Lib.hid hs
  have HH3 := Lib.hid (HH0.out.got hg)
  have HRD3 : Hid (0 ≤ rd3 ∧ rd3 ≤ 300300000) := by have h1 := HRD0.out; have h2 := set_bd (n := l.length) (m := m.length) (by have := HB1.out; have := HB2.out; omega); exact ⟨by omega, by omega⟩
  clear hs hg g0 g1 HX0 HH0
  obtain ⟨q0, q1⟩ := HCEL.out HX3.out
  go_wp2_with fail
  refine (HX3.out.mut fun F hI => HKS.out.union 2 _ hI HH3.out.inv (fun j => HH3.out.small (by have := HRL.out; simp; omega) j) HT2.out HT1.out HWF2.out HWF1.out HRD3.out.1 (by have := HRD3.out; omega) HP1.out.2.2.2).mono ?_
  rintro e v4 ⟨B4, rd4, hq, hs⟩
  obtain ⟨g0, g1, j4, t4, rfl, hg⟩ := hq.room HP1.out.2.2.1 (by have h1 := HH3.out.free; have h2 := set_pos (n := m.length) (m := l.length) (by have := HB2.out; have := HB1.out; omega); have h3 := HB2.out; have h4 := HB1.out; have h5 := HTS.out; have := HZ3.out; (try simp only [List.map_cons, List.map_nil, List.map_append, List.sum_append, List.sum_cons, List.sum_nil, List.cons_append, List.nil_append] at h1); omega)
  clear hq q0 q1
  replace HT1 := Lib.hid (HT1.out.kept hg.kept hg.inv hg.agg)
  replace HT2 := Lib.hid (HT2.out.kept hg.kept hg.inv hg.agg)
  replace HT3 := Lib.hid (HT3.out.kept hg.kept hg.inv hg.agg)
  have HT4 := Lib.hid (hg.tree HUP4.out)
  have HZ4 : Hid (t4.size ≤ 146) := by have h1 := HT4.out.size; have h2 := HB4.out; show _ ≤ _; omega
  have HX4 := Lib.hid hs
  have HH4 := Lib.hid (HH3.out.got hg)
  have HRD4 : Hid (0 ≤ rd4 ∧ rd4 ≤ 400400000) := by have h1 := HRD3.out; have h2 := set_bd (n := m.length) (m := l.length) (by have := HB2.out; have := HB1.out; omega); exact ⟨by omega, by omega⟩
  clear hs hg g0 g1 HX3 HH3
  obtain ⟨q0, q1⟩ := HCEL.out HX4.out
  go_wp2_with fail
  refine (HX4.out.mut fun F hI => HKS.out.intersect 1 _ hI HH4.out.inv (fun j => HH4.out.small (by have := HRL.out; simp; omega) j) HT1.out HT2.out HWF1.out HWF2.out HRD4.out.1 (by have := HRD4.out; omega) HP1.out.2.1).mono ?_
  rintro e v5 ⟨B5, rd5, hq, hs⟩
  obtain ⟨g0, g1, j5, t5, rfl, hg⟩ := hq.room HP1.out.1 (by have h1 := HH4.out.free; have h2 := set_pos (n := l.length) (m := m.length) (by have := HB1.out; have := HB2.out; omega); have h3 := HB1.out; have h4 := HB2.out; have h5 := HTS.out; have := HZ3.out; have := HZ4.out; (try simp only [List.map_cons, List.map_nil, List.map_append, List.sum_append, List.sum_cons, List.sum_nil, List.cons_append, List.nil_append] at h1); omega)
  clear hq q0 q1
  replace HT1 := Lib.hid (HT1.out.kept hg.kept hg.inv hg.agg)
  replace HT2 := Lib.hid (HT2.out.kept hg.kept hg.inv hg.agg)
  replace HT3 := Lib.hid (HT3.out.kept hg.kept hg.inv hg.agg)
  replace HT4 := Lib.hid (HT4.out.kept hg.kept hg.inv hg.agg)
  have HT5 := Lib.hid (hg.tree HUP5.out)
  have HZ5 : Hid (t5.size ≤ 70) := by have h1 := HT5.out.size; have h2 := HB5.out; show _ ≤ _; omega
  have HX5 := Lib.hid hs
  have HH5 := Lib.hid (HH4.out.got hg)
  have HRD5 : Hid (0 ≤ rd5 ∧ rd5 ≤ 500500000) := by have h1 := HRD4.out; have h2 := set_bd (n := l.length) (m := m.length) (by have := HB1.out; have := HB2.out; omega); exact ⟨by omega, by omega⟩
  clear hs hg g0 g1 HX4 HH4
  obtain ⟨q0, q1⟩ := HCEL.out HX5.out
  go_wp2_with fail
  refine (HX5.out.mut fun F hI => HKS.out.exclusive _ hI HH5.out.inv (fun j => HH5.out.small (by have := HRL.out; simp; omega) j) HT1.out HT2.out HWF1.out HWF2.out HRD5.out.1 (by have := HRD5.out; omega)).mono ?_
  rintro e v6 ⟨B6, rd6, hq, hs⟩
  obtain ⟨g0, g1, j6, t6, rfl, hg⟩ := hq.room (by have h1 := HH5.out.free; have h2 := set_pos (n := l.length) (m := m.length) (by have := HB1.out; have := HB2.out; omega); have h3 := HB1.out; have h4 := HB2.out; have h5 := HTS.out; have := HZ3.out; have := HZ4.out; have := HZ5.out; (try simp only [List.map_cons, List.map_nil, List.map_append, List.sum_append, List.sum_cons, List.sum_nil, List.cons_append, List.nil_append] at h1); omega)
  clear hq q0 q1
  replace HT1 := Lib.hid (HT1.out.kept hg.kept hg.inv hg.agg)
  replace HT2 := Lib.hid (HT2.out.kept hg.kept hg.inv hg.agg)
  replace HT3 := Lib.hid (HT3.out.kept hg.kept hg.inv hg.agg)
  replace HT4 := Lib.hid (HT4.out.kept hg.kept hg.inv hg.agg)
  replace HT5 := Lib.hid (HT5.out.kept hg.kept hg.inv hg.agg)
  have HT6 := Lib.hid (hg.tree HUP6.out)
  have HZ6 : Hid (t6.size ≤ 146) := by have h1 := HT6.out.size; have h2 := HB6.out; show _ ≤ _; omega
  have HX6 := Lib.hid hs
  have HH6 := Lib.hid (HH5.out.got hg)
  have HRD6 : Hid (0 ≤ rd6 ∧ rd6 ≤ 600600000) := by have h1 := HRD5.out; have h2 := set_bd (n := l.length) (m := m.length) (by have := HB1.out; have := HB2.out; omega); exact ⟨by omega, by omega⟩
  clear hs hg g0 g1 HX5 HH5
  obtain ⟨q0, q1⟩ := HCEL.out HX6.out
  go_wp2_with fail
  refine (HX6.out.mut fun F hI => HKS.out.subtract _ hI HH6.out.inv (fun j => HH6.out.small (by have := HRL.out; simp; omega) j) HT3.out HT5.out HWF3.out HWF5.out HRD6.out.1 (by have := HRD6.out; omega)).mono ?_
  rintro e v7 ⟨B7, rd7, hq, hs⟩
  obtain ⟨g0, g1, j7, t7, rfl, hg⟩ := hq.room (by have h1 := HH6.out.free; have h2 := set_pos (n := (unionE l m 1).length) (m := (intE l m 1).length) (by have := HB3.out; have := HB5.out; omega); have h3 := HB3.out; have h4 := HB5.out; have h5 := HTS.out; have := HZ3.out; have := HZ4.out; have := HZ5.out; have := HZ6.out; (try simp only [List.map_cons, List.map_nil, List.map_append, List.sum_append, List.sum_cons, List.sum_nil, List.cons_append, List.nil_append] at h1); omega)
  clear hq q0 q1
  replace HT1 := Lib.hid (HT1.out.kept hg.kept hg.inv hg.agg)
  replace HT2 := Lib.hid (HT2.out.kept hg.kept hg.inv hg.agg)
  replace HT3 := Lib.hid (HT3.out.kept hg.kept hg.inv hg.agg)
  replace HT4 := Lib.hid (HT4.out.kept hg.kept hg.inv hg.agg)
  replace HT5 := Lib.hid (HT5.out.kept hg.kept hg.inv hg.agg)
  replace HT6 := Lib.hid (HT6.out.kept hg.kept hg.inv hg.agg)
  have HT7 := Lib.hid (hg.tree HUP7.out)
  have HZ7 : Hid (t7.size ≤ 146) := by have h1 := HT7.out.size; have h2 := HB7.out; show _ ≤ _; omega
  have HX7 := Lib.hid hs
  have HH7 := Lib.hid (HH6.out.got hg)
  have HRD7 : Hid (0 ≤ rd7 ∧ rd7 ≤ 700700000) := by have h1 := HRD6.out; have h2 := set_bd (n := (unionE l m 1).length) (m := (intE l m 1).length) (by have := HB3.out; have := HB5.out; omega); exact ⟨by omega, by omega⟩
  clear hs hg g0 g1 HX6 HH6
  obtain ⟨NU, hNU⟩ : ∃ n, (unionE l m 1).length = n := ⟨_, rfl⟩
  obtain ⟨NI, hNI⟩ : ∃ n, (intE l m 1).length = n := ⟨_, rfl⟩
  obtain ⟨NZ, hNZ⟩ : ∃ n, (subE (unionE l m 1) (intE l m 1)).length = n := ⟨_, rfl⟩
  have HNN : Hid ((unionE l m 1).length = NU ∧ (intE l m 1).length = NI ∧ (subE (unionE l m 1) (intE l m 1)).length = NZ) := ⟨hNU, hNI, hNZ⟩
  obtain ⟨S, hS⟩ : ∃ S : Nat, L + M1 = S := ⟨_, rfl⟩
  have HSUM : Hid (NU + NI = S) := by have h1 := union_int_len 1 1 HUP1.out m.length HUP2.out rfl; have h2 := HLM.out; show _ = _; omega
  have hv1 : IntKind.i64.wrap ((NU : Int) + (NI : Int)) = (S : Int) := by have := HSUM.out; rw [IntKind.wrap_i64]; omega
  have hv2 : IntKind.i64.wrap ((L : Int) + (M1 : Int)) = (S : Int) := by rw [IntKind.wrap_i64]; omega
  have HNB : Hid (NU ≤ 146 ∧ NI ≤ 70 ∧ NZ ≤ 146) := by have := HB3.out; have := HB5.out; have := HB7.out; exact ⟨by omega, by omega, by omega⟩
  clear hNU hNI hNZ hS
  go_wp2_with fail
  refine (HX7.out.size HRD7.out.1 (by have := HRD7.out; omega) HT3.out).mono ?_
  rintro e v31 ⟨rfl, rd31, hs, g0, g1⟩
  rw [HNN.out.1]
  have HX31 := Lib.hid hs
  have HRD31 : Hid (0 ≤ rd31 ∧ rd31 ≤ 1000000031) := by have h1 := HRD7.out; exact ⟨by omega, by omega⟩
  clear hs g0 g1 HX7
  go_wp2_with fail
  refine (HX31.out.size HRD31.out.1 (by have := HRD31.out; omega) HT5.out).mono ?_
  rintro e v32 ⟨rfl, rd32, hs, g0, g1⟩
  rw [HNN.out.2.1]
  have HX32 := Lib.hid hs
  have HRD32 : Hid (0 ≤ rd32 ∧ rd32 ≤ 1000000032) := by have h1 := HRD31.out; exact ⟨by omega, by omega⟩
  clear hs g0 g1 HX31
  have hTT := HT4.out
  rw [HUV.out] at hTT
  replace HT4 := Lib.hid hTT
  clear hTT
  go_wp2_with fail
  refine (HX32.out.ens (fun F hI => HK.out.list _ hI HT3.out HWF3.out HRD32.out.1 (by have := HRD32.out; omega)) HNN.out.1).mono ?_
  rintro e wp1 ⟨ap1, cp1, rdp1, rfl, hs, g0, g1⟩
  have hb8 := bulk_bd (n := (unionE l m 1).length) (m := (unionE l m 1).length) (by have := HNN.out; have := HNB.out; omega) (Nat.le_refl _)
  have HXp1 := Lib.hid hs
  have HRDp1 : Hid (0 ≤ rdp1 ∧ rdp1 ≤ 1000102000) := by have h1 := HRD32.out; exact ⟨by omega, by omega⟩
  clear hs g0 g1 hb8 HX32
  go_wp2_with fail
  refine (HXp1.out.ens (fun F hI => HK.out.list _ hI HT4.out HWF3.out HRDp1.out.1 (by have := HRDp1.out; omega)) HNN.out.1).mono ?_
  rintro e wq1 ⟨aq1, cq1, rdq1, rfl, hs, g0, g1⟩
  have hb8 := bulk_bd (n := (unionE l m 1).length) (m := (unionE l m 1).length) (by have := HNN.out; have := HNB.out; omega) (Nat.le_refl _)
  have HXq1 := Lib.hid hs
  have HRDq1 : Hid (0 ≤ rdq1 ∧ rdq1 ≤ 1000104000) := by have h1 := HRDp1.out; exact ⟨by omega, by omega⟩
  clear hs g0 g1 hb8 HXp1
  go_wp2_with fail
  refine (same_ens (ens_row (w := wq1) (B := w.heap.size) (c := cp1) HNN.out.1 (HXq1.out.rows ⟨69, 2, .slice ap1 NU cp1, NU, ensV (unionE l m 1)⟩ (by simp)) HWF3.out) (ens_row (w := wq1) (B := w.heap.size) (c := cq1) HNN.out.1 (HXq1.out.rows ⟨69, 2, .slice aq1 NU cq1, NU, ensV (unionE l m 1)⟩ (by simp)) HWF3.out) HNN.out.1 (by have := HNB.out; omega)).mono ?_
  rintro e ws1 ⟨rfl, hb⟩
  have HXs1 := Lib.hid (HXq1.out.calm hb)
  clear hb HXq1
  have hTT := HT6.out
  rw [HWZ.out] at hTT
  replace HT6 := Lib.hid hTT
  clear hTT
  go_wp2_with fail
  refine (HXs1.out.ens (fun F hI => HK.out.list _ hI HT6.out HWF7.out HRDq1.out.1 (by have := HRDq1.out; omega)) HNN.out.2.2).mono ?_
  rintro e wp2 ⟨ap2, cp2, rdp2, rfl, hs, g0, g1⟩
  have hb8 := bulk_bd (n := (subE (unionE l m 1) (intE l m 1)).length) (m := (subE (unionE l m 1) (intE l m 1)).length) (by have := HNN.out; have := HNB.out; omega) (Nat.le_refl _)
  have HXp2 := Lib.hid hs
  have HRDp2 : Hid (0 ≤ rdp2 ∧ rdp2 ≤ 1000202000) := by have h1 := HRDq1.out; exact ⟨by omega, by omega⟩
  clear hs g0 g1 hb8 HXs1
  go_wp2_with fail
  refine (HXp2.out.ens (fun F hI => HK.out.list _ hI HT7.out HWF7.out HRDp2.out.1 (by have := HRDp2.out; omega)) HNN.out.2.2).mono ?_
  rintro e wq2 ⟨aq2, cq2, rdq2, rfl, hs, g0, g1⟩
  have hb8 := bulk_bd (n := (subE (unionE l m 1) (intE l m 1)).length) (m := (subE (unionE l m 1) (intE l m 1)).length) (by have := HNN.out; have := HNB.out; omega) (Nat.le_refl _)
  have HXq2 := Lib.hid hs
  have HRDq2 : Hid (0 ≤ rdq2 ∧ rdq2 ≤ 1000204000) := by have h1 := HRDp2.out; exact ⟨by omega, by omega⟩
  clear hs g0 g1 hb8 HXp2
  go_wp2_with fail
  refine (same_ens (ens_row (w := wq2) (B := w.heap.size) (c := cp2) HNN.out.2.2 (HXq2.out.rows ⟨69, 2, .slice ap2 NZ cp2, NZ, ensV (subE (unionE l m 1) (intE l m 1))⟩ (by simp)) HWF7.out) (ens_row (w := wq2) (B := w.heap.size) (c := cq2) HNN.out.2.2 (HXq2.out.rows ⟨69, 2, .slice aq2 NZ cq2, NZ, ensV (subE (unionE l m 1) (intE l m 1))⟩ (by simp)) HWF7.out) HNN.out.2.2 (by have := HNB.out; omega)).mono ?_
  rintro e ws2 ⟨rfl, hb⟩
  have HXs2 := Lib.hid (HXq2.out.calm hb)
  clear hb HXq2
  have HFB := Lib.hid HXs2.out.below
  clear HXs2
  go_wp2_with fail
  go_ret
  exact ⟨rfl, HFB.out⟩
end Go.Proofs.YtfihklpofmcfgaaGreat
