/- The trees of least numbers of keys: slim; plain, and its walk over contracts of an arena. -/
import Derived.Test.YticfihklfnjeoaaKitTree
import Derived.Test.YticfihklfnjeoaaDumpD
import Derived.OwnWalk
set_option linter.unusedVariables false
set_option linter.unusedSimpArgs false
namespace Go.Proofs.Yticfihklfnjeoaa
open Go.RowKit
/-- n entries with the keys from f on -/
def seqE (f : Int) : Nat → List En
  | 0 => []
  | n + 1 => ⟨f, 0⟩ :: seqE (f + 1) n
theorem seqE_len : ∀ (n : Nat) (f : Int), (seqE f n).length = n
  | 0, _ => rfl
  | n + 1, f => by unfold seqE; rw [List.length_cons, seqE_len n (f + 1)]
theorem seqE_app : ∀ (n m : Nat) (f : Int), seqE f (n + m) = seqE f n ++ seqE (f + (n : Int)) m
  | 0, m, f => by rw [Nat.zero_add]; simp [seqE]
  | n + 1, m, f => by
    rw [show n + 1 + m = (n + m) + 1 by omega]
    show ⟨f, 0⟩ :: seqE (f + 1) (n + m) = (⟨f, 0⟩ :: seqE (f + 1) n) ++ _
    rw [seqE_app n m (f + 1), List.cons_append, show f + 1 + (n : Int) = f + ((n + 1 : Nat) : Int) by omega]
theorem seqE_snoc (n : Nat) (f : Int) : seqE f (n + 1) = seqE f n ++ [⟨f + (n : Int), 0⟩] := by rw [seqE_app n 1 f]; rfl
theorem seqE_mem : ∀ (n : Nat) (f : Int) (e : En), e ∈ seqE f n → f ≤ e.key ∧ e.key < f + (n : Int) ∧ e.val = 0
  | 0, f, e, h => by cases h
  | n + 1, f, e, h => by
    unfold seqE at h
    rcases List.mem_cons.1 h with rfl | h
    · exact ⟨Int.le_refl _, by show f < _; omega, rfl⟩
    · have := seqE_mem n (f + 1) e h
      exact ⟨by omega, by omega, this.2.2⟩
theorem seqE_up : ∀ (n : Nat) (f : Int), Up (seqE f n)
  | 0, f => List.Pairwise.nil
  | n + 1, f => List.pairwise_cons.2 ⟨fun e he => by have := seqE_mem n (f + 1) e he; show f < e.key; omega, seqE_up n (f + 1)⟩
/-- how many keys the lighter side has -/
def rest (h : Nat) : Nat := (wt h + 2) / 3 - 1
theorem rest_eq (h : Nat) : wt h - 1 + rest h + 1 = wt (h + 1) - 1 := by have := wt_pos h; rw [wt_succ]; unfold rest; omega
theorem rest_bal (h : Nat) (hh : wt h ≤ 2147483648) : bal ((wt h - 1 : Nat) : Int) (rest h : Int) = true := by
  have := wt_pos h
  unfold bal rest
  exact decide_eq_true (by omega)
/-- the lighter side is no higher -/
theorem rest_ht {h : Nat} {A A' : Ar} {held : Nat → Nat} {l : List En} {i : Nat} {t : Tr} (hp : Planted A held l A' i t) (hl : l.length = rest h) : t.ht ≤ h := by
  have h1 := balT_ht hp.agg hp.sub (by rw [balT_bal hp.agg hp.sub]; exact hp.bal)
  rw [hp.size, hl] at h1
  have h2 := wt_pos h
  rcases Nat.lt_or_ge h t.ht with h3 | h3
  · have h4 := wt_mono (show h + 1 ≤ t.ht from h3)
    have h5 := wt_lt h
    unfold rest at h1
    omega
  · exact h3
def SlimRes (I : AImpl) (A : Ar) (rd : Int) (F : Nat → Prop) (held : Nat → Nat) (first : Int) (h : Nat) (p : Value) (w : World) (e : Ending) (w' : World) : Prop :=
  ∃ (A' : Ar) (i : Nat) (t : Tr) (F' : Nat → Prop), Planted A held (seqE first (wt h - 1)) A' i t ∧ t.ht = h ∧ e = .returned (.tuple #[.int .u32 (i : Int), .int .i64 (first + ((wt h - 1 : Nat) : Int)), .bool true]) ∧ Alters F F' w w' ∧ I.Is w' p A' rd F'
def SlimSpec (I : AImpl) (h : Nat) : Prop := ∀ (p : Value) (A : Ar) (rd : Int) (F : Nat → Prop) (held : Nat → Nat) (first : Int) (w : World),
  I.Is w p A rd F → A.Inv [] held → A.Agg → (∀ j, held j + 2 * wt h ≤ 1048576) → wt h - 1 ≤ A.σ.free.length → 0 ≤ first → first ≤ 1000000000 →
  Calls Try.prog 29 #[p, .int .i64 first, .int .i64 (h : Int)] w (SlimRes I A rd F held first h p w)
def SRel (Z : Nat) (w2 : World) (k : Int) (R : Nat) (x i : Value) (wr : World) : Prop := ∃ j : Nat, i = .int .i64 (j : Int) ∧ j ≤ R ∧ ESt Z w2 (seqE (k + 1) j) x wr
set_option maxHeartbeats 2000000 in
set_option maxRecDepth 100000 in
theorem slim_zero (I : AImpl) : SlimSpec I 0 := by
  intro p A rd F held first w hI hInv hAg hh hf hf0 hf1
  have HR : Hid (SlimRes I A rd F held first 0 p w (.returned (.tuple #[.int .u32 ((0 : Nat) : Int), .int .i64 first, .bool true])) w) := ⟨A, 0, .nil, F, .nil hInv hAg, rfl, by simp [wt], .refl w F, hI⟩
  clear hI hInv hAg hh hf hf0 hf1
  go_enter Try.func29, Try.ntmps29
  go_wp2_with fail
  go_ret3
  exact HR.out
set_option maxHeartbeats 8000000 in
set_option maxRecDepth 100000 in
theorem slim_step (I : AImpl) (h : Nat) (h14 : h < 14) (ih : SlimSpec I h) : SlimSpec I (h + 1) := by
  intro p A rd F held first w hI hInv hAg hh hf hf0 hf1
  obtain ⟨pa, rfl⟩ := I.ptr hI
  have hwt : wt (h + 1) ≤ 115 := Nat.le_trans (wt_mono (show h + 1 ≤ 14 by omega)) (by decide)
  have hwt0 : wt h ≤ 115 := Nat.le_trans (wt_mono (show h ≤ 14 by omega)) (by decide)
  have hre := rest_eq h
  have hwp := wt_pos h
  obtain ⟨H, hH⟩ : ∃ H, h + 1 = H := ⟨_, rfl⟩
  obtain ⟨M0, hM0⟩ : ∃ M0, wt h - 1 = M0 := ⟨_, rfl⟩
  obtain ⟨M1, hM1⟩ : ∃ M1, wt (h + 1) - 1 = M1 := ⟨_, rfl⟩
  obtain ⟨R, hR⟩ : ∃ R, rest h = R := ⟨_, rfl⟩
  obtain ⟨k, hk⟩ : ∃ k : Int, first + (M0 : Int) = k := ⟨_, rfl⟩
  rw [hM0, hM1, hR] at hre
  have HMH : Hid (mkI (H : Int) = (M1 : Int)) := by
    show mkI (H : Int) = _
    unfold mkI
    rw [if_pos ⟨by omega, by omega⟩, Int.toNat_natCast, ← hH]; omega
  have HMh : Hid (mkI (h : Int) = (M0 : Int)) := by
    show mkI (h : Int) = _
    unfold mkI
    rw [if_pos ⟨by omega, by omega⟩, Int.toNat_natCast]; omega
  have HLEFT := Lib.hid (ih (.pointer (some pa)) A rd F held first w hI hInv hAg (fun j => by have := hh j; have := wt_lt h; omega) (by omega) hf0 hf1)
  have HHD := Lib.hid hh
  have HFR := Lib.hid hf
  have HNUM : Hid (M0 + R + 1 = M1 ∧ wt h - 1 = M0 ∧ wt (h + 1) - 1 = M1 ∧ rest h = R ∧ first + (M0 : Int) = k ∧ wt (h + 1) ≤ 115 ∧ 0 ≤ first ∧ first ≤ 1000000000 ∧ h + 1 = H ∧ 1 ≤ wt h ∧ wt h ≤ 115) := ⟨hre, hM0, hM1, hR, hk, hwt, hf0, hf1, hH, hwp, hwt0⟩
  have hne : ((H : Int) == 0) = false := by simp; omega
  have hne2 : ¬ (H : Int) = 0 := by omega
  have hw1 : IntKind.i64.wrap ((H : Int) - 1) = (h : Int) := by rw [IntKind.wrap_i64]; omega
  have hr1 : IntKind.i64.wrap ((M1 : Int) - (M0 : Int)) = (M1 : Int) - (M0 : Int) := by rw [IntKind.wrap_i64]; omega
  have hr2 : IntKind.i64.wrap ((M1 : Int) - (M0 : Int) - 1) = (R : Int) := by rw [IntKind.wrap_i64]; omega
  have hk1 : IntKind.i64.wrap (k + 1) = k + 1 := by rw [IntKind.wrap_i64]; omega
  have hk2 : IntKind.i64.wrap (k + 1 + (R : Int)) = k + 1 + (R : Int) := by rw [IntKind.wrap_i64]; omega
  have hRi : (R : Int) ≤ 115 := by omega
  have HH80 : Hid (-9223372036854775808 ≤ (H : Int) ∧ (H : Int) ≤ 9223372036854775807 ∧ -9223372036854775808 ≤ (h : Int) ∧ (h : Int) ≤ 9223372036854775807) := ⟨by omega, by omega, by omega, by omega⟩
  rw [hH]
  clear ih hI hInv hAg hh hf hf0 hf1 hwt hwt0 hre hwp hH hM0 hM1 hR hk
  go_enter Try.func29, Try.ntmps29
  go_wp2_with fail
  refine HLEFT.out.mono ?_
  rintro e w1 ⟨A1, il, tl, F1, hP1, hht1, rfl, hal1, hI1⟩
  rw [HNUM.out.2.1] at hP1 ⊢
  rw [HNUM.out.2.2.2.2.1]
  have HP1 := Lib.hid hP1
  have HT1 := Lib.hid hht1
  have HAL1 := Lib.hid hal1
  have HI1 := Lib.hid hI1
  clear hP1 hht1 hal1 hI1 HLEFT
  go_wp2_with fail
  refine (refMinKeys_any (H : Int) w1 HH80.out.1 HH80.out.2.1).mono ?_
  rintro e w2 ⟨rfl, hb2⟩
  rw [HMH.out]
  have HB2 := Lib.hid hb2
  clear hb2
  go_wp2_with fail
  refine (refMinKeys_any (h : Int) w2 HH80.out.2.2.1 HH80.out.2.2.2).mono ?_
  rintro e w3 ⟨rfl, hb3⟩
  rw [HMh.out]
  have HB3 : Hid (Below w1.heap.size w1 w3) := HB2.out.trans (hb3.mono HB2.out.size)
  clear hb3 HB2
  obtain ⟨Z, hZ⟩ : ∃ Z, w3.heap.size = Z := ⟨_, rfl⟩
  have HZ := Lib.hid hZ
  have HR0 : Hid (SRel Z w3 k R (.slice none 0 0) (.int .i64 0) w3) := ⟨0, rfl, Nat.zero_le _, ESt.start w3 hZ⟩
  clear hZ
  go_wp2_with fail
  go_loopw [13, 14] (fun x i wr => SRel Z w3 k R x i wr) (fun _ i _ => R - (intOf i).toNat)
  case atStart => exact HR0.out
  case round =>
    clear HR0
    obtain ⟨j, rfl, hj, hE⟩ := hrel
    obtain ⟨xa, xc, rfl⟩ := hE.val
    rw [seqE_len] at hE ⊢
    have HE := Lib.hid hE
    have HJ := Lib.hid hj
    by_cases hlt : j < R
    · have hji : (j : Int) < (R : Int) := by omega
      have hkj : IntKind.i64.wrap (k + 1 + (j : Int)) = k + 1 + (j : Int) := by rw [IntKind.wrap_i64]; have := HNUM.out; omega
      have HLT := Lib.hid hlt
      have hEN : ESt Z w3 (seqE (k + 1) j) (.slice xa j xc) (wr.alloc (Obj.cells #[Value.int .i64 (k + 1 + (j : Int)), .int .i64 0] 95)) := hE.from (below_new7 wr _) HZ.out
      have HEN := Lib.hid hEN
      clear hE hj hlt hEN
      go_wp2_with (at_builtin; refine wpList_append_en rfl (.tmp 45) (.tmp 51) rfl HEN.out HZ.out rfl ⟨k + 1 + (j : Int), 0⟩ wr.heap.size rfl (cell_newE wr ⟨k + 1 + (j : Int), 0⟩ _) (by rw [seqE_len]; have := HNUM.out; have := HJ.out; omega) ?_; intro v5 w5 hc5)
      rw [← seqE_snoc] at hc5
      exact ⟨⟨j + 1, by go_num, by have := HLT.out; omega, hc5⟩, by have := HLT.out; simp [intOf]; omega⟩
    · have hji : ¬ (j : Int) < (R : Int) := by omega
      obtain rfl : j = R := by have := HJ.out; omega
      have hbW : Below w1.heap.size w1 wr := HB3.out.trans (hE.below.mono (by rw [← HZ.out]; exact HB3.out.size))
      have HBW := Lib.hid hbW
      have hrow : wr.ownsRow Z 95 2 (.slice xa (seqE (k + 1) j).length xc) (seqE (k + 1) j).length (ensV (seqE (k + 1) j)) := by have := hE.row; rw [seqE_len] at this ⊢; exact this
      have hwf : ∀ y ∈ seqE (k + 1) j, i64R y.key ∧ i64R y.val := fun y hy => by
        have h1 := seqE_mem _ _ y hy
        have h2 := HNUM.out
        exact ⟨⟨by omega, by omega⟩, by rw [h1.2.2]; exact ⟨by decide, by decide⟩⟩
      have hat := ens_at hrow hwf
      have hcaps := row_caps hrow
      rw [seqE_len] at hcaps
      have HAT := Lib.hid hat
      have HCAPS := Lib.hid hcaps
      have HZF : Hid (j ≠ 0 → ∀ b off, xa = some ⟨b, off, none⟩ → ¬ F1 b) := fun h0 b off e hF => by
        have h1 := (row_lt hrow b (by rw [e]; rfl)).1
        have h2 := I.dom HI1.out b hF
        have h3 := HB3.out.size
        have h4 := HZ.out
        omega
      have HIW := Lib.hid (I.below HI1.out hbW)
      have hf1 := HP1.out.free
      rw [seqE_len] at hf1
      have HF1 := Lib.hid hf1
      clear hE hj hlt hbW hrow hwf hat hcaps hf1
      go_wp2_with fail
      refine (plant_any I j (seqE (k + 1) j) xa xc _ _ A1 rd F1 (pls held il) wr (seqE_len _ _) HIW.out HP1.out.inv HP1.out.agg (fun y => by rw [pls_at]; have h1 := HHD.out y; have h2 := HNUM.out; split <;> omega) (by have h1 := HF1.out; have h2 := HFR.out; have h3 := HNUM.out; omega) HAT.out HZF.out HCAPS.out.1 HCAPS.out.2 (by omega) (by omega)).mono ?_
      rintro e w5 ⟨A2, ir, tr, F2, hP2, rfl, hal2, hI2⟩
      have hht2 := rest_ht (h := h) hP2 (by rw [seqE_len]; have := HNUM.out; omega)
      have HHT2 := Lib.hid hht2
      have HP2 := Lib.hid hP2
      have HAL2 : Hid (Alters F F2 w w5) := HAL1.out.trans ((Alters.of_below HBW.out).trans hal2)
      have HI2 := Lib.hid hI2
      clear hP2 hal2 hI2 hht2
      obtain ⟨fr0, hfr0⟩ : ∃ x, A2.σ.free = x := ⟨_, rfl⟩
      cases fr0 with
      | nil => exact absurd (congrArg List.length hfr0) (by have h1 := HP2.out.free; have h2 := HF1.out; have h3 := HFR.out; have h4 := HNUM.out; rw [seqE_len] at h1; simp only [List.length_nil]; omega)
      | cons i fr =>
        have HFR2 := Lib.hid hfr0
        clear hfr0
        have hb2 : bal ((seqE first M0).length : Int) ((seqE (k + 1) j).length : Int) = true := by
          rw [seqE_len, seqE_len]
          have h1 := HNUM.out
          have h2 := rest_bal h (by omega)
          rw [h1.2.1, h1.2.2.2.1] at h2
          exact h2
        have hnode := Planted.node (e := ⟨k, 0⟩) HP1.out HP2.out HFR2.out rfl hb2 (by rw [seqE_len, seqE_len]; have := HNUM.out; omega)
        have HNODE := Lib.hid hnode
        have hsl := HP1.out.sub.kept HP2.out.kept
        have hov := over_ok rfl HP2.out.inv HP2.out.agg HFR2.out hsl.idx HP2.out.sub.idx hnode.2
        have HIL : Hid (A2.Idx il ∧ A2.Idx ir) := ⟨hsl.idx, HP2.out.sub.idx⟩
        obtain ⟨o1, o2, o3, o4, o5, o6, o7, o8, o9, o10⟩ := hov
        have HOK4 := Lib.hid (o7 o8).ok
        have HOK5 := Lib.hid (o9 o10).ok
        have HO7 := Lib.hid o7
        have HO8 := Lib.hid o8
        have HO9 := Lib.hid o9
        have HO10 := Lib.hid o10
        clear hb2 hnode hsl o1 o2 o3 o4 o5 o6 o7 o8 o9 o10
        go_wp2_with fail
        refine (make_call I HI2.out HP2.out.inv HP2.out.agg (fun y => by rw [pls_at, pls_at]; have := HHD.out y; have := HNUM.out; split <;> split <;> omega) ⟨⟨by have := HNUM.out; omega, by have := HNUM.out; omega⟩, by decide, by decide⟩ HIL.out.1 HIL.out.2 HNODE.out.2 HFR2.out).mono ?_
        rintro e w6 ⟨rfl, F3, hal3, hI3⟩
        have HI3 := Lib.hid hI3
        have HA3 : Hid (Alters F F3 w w6) := HAL2.out.trans hal3
        clear hal3 hI3
        go_wp2_with fail
        refine (release_call I HI3.out HOK4.out HO7.out HO8.out).mono ?_
        rintro e w7 ⟨⟨m, rfl⟩, F4, hal4, hI4⟩
        have HI4 := Lib.hid hI4
        have HA4 : Hid (Alters F F4 w w7) := HA3.out.trans hal4
        clear hal4 hI4
        go_wp2_with fail
        refine (release_call I HI4.out HOK5.out HO9.out HO10.out).mono ?_
        rintro e w8 ⟨⟨m', rfl⟩, F5, hal5, hI5⟩
        have HR : Hid (SlimRes I A rd F held first H (.pointer (some pa)) w (.returned (.tuple #[.int .u32 (i : Int), .int .i64 (k + 1 + (j : Int)), .bool true])) w8) := by
          have h1 := HNUM.out
          have h2 := HHT2.out
          have h3 := HT1.out
          have e1 : wt H - 1 = M1 := by rw [← h1.2.2.2.2.2.2.2.2.1]; exact h1.2.2.1
          refine ⟨_, i, .node i tl tr, F5, ?_, ?_, ?_, HA4.out.trans hal5, hI5⟩
          · have h4 := HNODE.out.1
            rw [show seqE first (wt H - 1) = seqE first M0 ++ ⟨k, 0⟩ :: seqE (k + 1) j by rw [e1, show M1 = M0 + (j + 1) by omega, seqE_app, h1.2.2.2.2.1]; rfl]
            exact h4
          · show 1 + max tl.ht tr.ht = H
            omega
          · rw [e1, show first + (M1 : Int) = k + 1 + (j : Int) by omega]
        clear hal5 hI5
        go_wp2_with fail
        go_ret3
        exact HR.out
theorem slim_any (I : AImpl) : ∀ h, h ≤ 14 → SlimSpec I h
  | 0, _ => slim_zero I
  | h + 1, hh => slim_step I h (by omega) (slim_any I h (by omega))
end Go.Proofs.Yticfihklfnjeoaa
