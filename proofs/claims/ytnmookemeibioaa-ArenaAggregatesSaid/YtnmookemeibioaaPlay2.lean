/- The client of layer 5's statements takes a step. -/
import Derived.Test.YtnmookemeibioaaPlay1
import Derived.Test.YtnmookemeibioaaAppAt
import Derived.Test.YtnmookemeibioaaChkS
import Derived.Deep.CutRange
import Derived.Deep.RegionHeld3
import Derived.Deep.DeepCutAuto
set_option linter.unusedVariables false
namespace Go.Proofs.Ytnmookemeibioaa
open Go.RowKit

def StepRes (I : AImpl) (B : Nat) (w0 : World) (q : Nat) (p : Value) (A : Ar) (rd : Int) (l : List Nat) (e : Ending) (w' : World) : Prop :=
  ∃ (A' : Ar) (a : Option Addr) (c : Nat) (l' : List Nat), e = .returned (.bool true) ∧ A'.σ.cap = A.σ.cap ∧ l'.length ≤ l.length + 1 ∧ TC I B w0 w' q p (.slice a l'.length c) A' rd (hof l') l'
theorem held_lt {A : Ar} {l : List Nat} (h : A.Inv [] (hof l)) : ∀ y ∈ l, y < 4294967296 := fun y hy => by
  rcases held_idx h (.inr hy) with h5 | h5
  · omega
  · have := h.ok.on y h5; have := h.ok.cap2; omega
theorem idx_lt {l : List Nat} {y : Nat} (h : ∀ y ∈ l, y < 4294967296) (hy : y = 0 ∨ y ∈ l) : y < 4294967296 := by
  rcases hy with rfl | hy
  · decide
  · exact h y hy
def MadeCut (I : AImpl) (B : Nat) (w0 : World) (q : Nat) (p x : Value) (A : Ar) (rd : Int) (l : List Nat) (s10 s11 : Value) (wx : World) : Prop :=
  ∃ (A' : Ar) (i : Nat) (er : Int) (l' : List Nat), A'.σ.cap = A.σ.cap ∧ s10 = .int .u32 (i : Int) ∧ s11 = .int .i64 er ∧ TC I B w0 wx q p x A' rd (hof l') l ∧ i < 4294967296 ∧ ((er = 0 ∧ l' = l ++ [i]) ∨ (er = 2 ∧ l' = l))
theorem row5c {w : World} {g : Nat} {t : TypeId} {c0 c1 c2 c3 c4 : Value} (h : w.heap[g]? = some (.cells #[c0, c1, c2, c3, c4] t (0, 0))) :
    w.cell? ⟨g, 0, none⟩ = some c0 ∧ w.cell? ⟨g, 1, none⟩ = some c1 ∧ w.cell? ⟨g, 2, none⟩ = some c2 ∧ w.cell? ⟨g, 3, none⟩ = some c3 ∧ w.cell? ⟨g, 4, none⟩ = some c4 := by
  refine ⟨?_, ?_, ?_, ?_, ?_⟩ <;> (rw [cell_of_row _ _ _ _ _ _ h]; rfl)
section
variable {I : AImpl} {B q : Nat} {w w' w0 : World} {pa xa : Option Addr} {xc : Nat} {A : Ar} {rd : Int} {l : List Nat}
set_option maxHeartbeats 4000000 in
set_option maxRecDepth 100000 in
theorem astep (pa : Addr) (h : TC I B w0 w q (.pointer (some pa)) (.slice xa l.length xc) A rd (hof l) l) (kd key val a b : Int) (hl : l.length ≤ 60000) (hcap : A.σ.cap ≤ 30)
    (k1 : -9223372036854775808 ≤ kd) (k2 : kd ≤ 9223372036854775807) (k3 : -9223372036854775808 ≤ key ∧ key ≤ 9223372036854775807) (k4 : -9223372036854775808 ≤ val ∧ val ≤ 9223372036854775807) (a1 : 0 ≤ a) (a2 : a < 4294967296) (b1 : 0 ≤ b) (b2 : b < 4294967296) :
    Calls Try.prog 60 #[.pointer (some ⟨q, 0, none⟩), .agg #[.int .i64 kd, .int .i64 key, .int .i64 val, .int .u32 a, .int .u32 b]] w (StepRes I B w0 q (.pointer (some pa)) A rd l) := by
  obtain ⟨i0, ji, jz0, jz1, jz2⟩ := info_parts uInfo
  have h1 := h.calm (below_new w (Obj.cells #[Value.int .i64 kd, .int .i64 key, .int .i64 val, .int .u32 a, .int .u32 b] 43))
  have hs := heap_alloc_new w (Obj.cells #[Value.int .i64 kd, .int .i64 key, .int .i64 val, .int .u32 a, .int .u32 b] 43)
  have hli : (l.length : Int) ≤ 60000 := by omega
  obtain ⟨F, hI, hF2, hF3, hF4⟩ := h.has
  have HF5 : Hid (¬ F w.heap.size) := fun hf => by have := I.dom hI _ hf; omega
  have HIS : Hid (I.Is (w.alloc (Obj.cells #[Value.int .i64 kd, Value.int .i64 key, Value.int .i64 val, Value.int .u32 a, Value.int .u32 b] 43)) (.pointer (some pa)) A rd F) := I.below hI (below_new _ _)
  have HSB : Hid (w.heap.size < (w.alloc (Obj.cells #[Value.int .i64 kd, Value.int .i64 key, Value.int .i64 val, Value.int .u32 a, Value.int .u32 b] 43)).heap.size) := by show _ < _; simp
  have HF2 := Lib.hid hF2
  have HF3 := Lib.hid hF3
  have HF4 := Lib.hid hF4
  clear hI hF2 hF3 hF4
  have HL0 := Lib.hid hl
  clear h hl
  go_enter Try.func60, Try.ntmps60
  go_upto_region 1 with fail
  generalize w.alloc (Obj.cells #[Value.int .i64 kd, .int .i64 key, .int .i64 val, .int .u32 a, .int .u32 b] 43) = w1 at h1 hs HIS HSB ⊢
  generalize w.heap.size = sb at hs HF5 HSB ⊢
  obtain ⟨s0, s1, s2, s3, s4⟩ := row5c hs
  have HS := Lib.hid hs
  have hlt := held_lt h1.inv
  obtain ⟨L, hL⟩ : ∃ L, l.length = L := ⟨_, rfl⟩
  have HL := Lib.hid hL
  have hrow := h1.row
  obtain ⟨hc0, hc1⟩ := h1.cells
  have H1 := Lib.hid h1
  have HLT := Lib.hid hlt
  have hr0 := Int.emod_nonneg kd (b := 6) (by omega)
  have hr1 := Int.emod_lt_of_pos kd (b := 6) (by omega)
  obtain ⟨r, hr⟩ : ∃ r, kd % 6 = r := ⟨_, rfl⟩
  have HR := Lib.hid hr
  rw [hr] at hr0 hr1
  clear hs h1 hlt hr
  go_wp2_with fail
  refine (mod_any kd 6 _ k1 k2 (by decide) (by decide)).mono ?_
  rintro e w2 ⟨rfl, rfl⟩
  rw [HR.out]
  clear HR
  rw [hL] at hc1 hrow hli
  clear hL
  have hpick : ∀ (u : Int) (wx : World), 0 ≤ u → u < 4294967296 → Below w1.heap.size w1 wx → Calls Try.prog 68 #[.pointer (some ⟨q, 0, none⟩), .int .u32 u] wx (APick wx l) := fun u wx hu1 hu2 hb => by
    have hT := H1.out.calm hb
    exact apick_any u q xa xc B l wx hu1 hu2 hT.cells.2 hT.row (by have := HL0.out; rw [HL.out] at this; have := HL0.out; omega) HLT.out
  have HPICK := Lib.hid hpick
  clear hpick
  rcases (show r = 3 ∨ (r = 4 ∨ r = 5) ∨ (r = 0 ∨ r = 1 ∨ r = 2) by omega) with rfl | hr | hr
  · go_wp2_with fail
    refine (HPICK.out a w1 a1 a2 (Below.refl _ _)).mono ?_
    rintro e w2 ⟨y, dd, hy, rfl, rfl⟩
    have hT := H1.out.calm (below_drewN (Below.refl _ _) dd)
    generalize w1.drewN dd = w2 at hT ⊢
    clear hc0 hc1 hrow s0 s1 s2 s3 s4
    obtain ⟨hc0, hc1⟩ := hT.cells
    rw [HL.out] at hc1
    go_wp2_with fail
    refine (tc_retain hT hy (by have := HL0.out; omega)).mono ?_
    rintro e w3 ⟨A', hcap', rfl, hT3⟩
    clear hT hc0 hc1
    have hT4 := hT3.calm (below_new w3 (Obj.cells #[Value.int .u32 (y : Int)] 41))
    obtain ⟨hc0, hc1⟩ := hT3.cells
    rw [HL.out] at hc1
    have hrow := hT4.row
    have hB := hT4.hB
    rw [HL.out] at hrow
    have HT4 := Lib.hid hT4
    clear hT3 hT4
    go_wp2_with (at_builtin; refine wpList_append_own_at _ rfl (.tmp 73) (.tmp 75) 33 rfl B 41 i0 (.int .u32 0) 1 4 Try.underlying33 ji jz0 jz1 jz2 rfl (by decide) _ L (u32s l) rfl hrow ⟨w3.heap.size, 0, none⟩ 1 1 [.int .u32 (y : Int)] rfl rfl (cell_new1 _ _ _) (one_cell1 _ _) (by unfold maxLen; omega) (by omega) hB ?_; intro v6 w6 ho6 hg6 _ hv6; obtain ⟨va, vc, rfl⟩ := row_val ho6; have hq6 := (hg6.block q HT4.out.lt (fun e => HT4.out.qx (by rw [HL.out]; exact e.symm))).trans HT4.out.box; have hcq := (two_cells hq6).2; have hfq := frozen_of_row w6 q 1 _ _ hq6)
    go_ret
    refine ⟨A', va, vc, l ++ [y], rfl, hcap', by simp, ?_⟩
    have h9 := HT4.out.grew (l' := l ++ [y]) (v := .slice va (l.length + 1) vc) (by rw [List.length_append, u32s_app, HL.out]; exact ho6) (by rw [HL.out]; exact hg6) (by rw [HL.out]; exact hv6)
    rw [HL.out] at h9
    rw [List.length_append, HL.out]
    exact h9
  · have hr' : ∃ b : Bool, (r = 4) = (b = true) := ⟨decide (r = 4), by simp⟩
    by_cases hL0 : L = 0
    · have hLE : Hid (l.length = 0) := by rw [← hL0]; exact HL.out
      rw [hL0] at hc1
      clear hrow hr'
      rcases hr with rfl | rfl
      all_goals
        go_wp2_with fail
        go_ret
        refine ⟨A, xa, xc, l, rfl, rfl, by omega, H1.out⟩
    · have hLp : (0 : Int) < (L : Int) := by omega
      have hLz : ((L : Int) == 0) = false := beq_eq_false_iff_ne.2 (by omega)
      have h6 := Int.emod_nonneg a (b := (L : Int)) (by omega)
      have h7 := Int.emod_lt_of_pos a (b := (L : Int)) (by omega)
      obtain ⟨j, hj⟩ := Int.eq_ofNat_of_zero_le h6
      have hjL : j < L := by omega
      obtain ⟨g, rfl, hg, hc⟩ := row_cell hrow hjL
      have hjl : j < l.length := by rw [HL.out]; exact hjL
      have hcj := hc.trans (held_get hjl)
      have HJL := Lib.hid hjl
      have hji : (j : Int) < (L : Int) := by omega
      have hj0 : (0 : Int) ≤ (j : Int) := by omega
      clear hc hg hrow h6 h7 hL0 hjl hr'
      rcases hr with rfl | rfl
      all_goals
        go_wp2_with fail
        go_quiet (fail)
        go_upto_region 18 with fail
        rw [hj]
        have HJ := Lib.hid hj
        have hT := H1.out.calm (below_drewN (Below.refl w1.heap.size w1) nq)
        have hcj2 : (w1.drewN nq).cell? ⟨g, j, none⟩ = _ := hcj
        generalize w1.drewN nq = w2 at hT hcj2 ⊢
        clear hc0 hc1 hcj hj s0 s1 s2 s3 s4
        obtain ⟨hc0, hc1⟩ := hT.cells
        rw [HL.out] at hc1
        have HT := Lib.hid hT
        clear hT
        have HGJ := Lib.hid ((hcj2 : w2.cell? ⟨g, j, none⟩ = some (.int .u32 ((l.getD j 0 : Nat) : Int))))
        go_region_held3 (fun w' => w'.cell? ⟨q, 0, none⟩ = some (.pointer (some pa)) ∧ w'.cell? ⟨q, 1, none⟩ = some (.slice (some ⟨g, 0, none⟩) L xc) ∧ w'.cell? ⟨g, j, none⟩ = some (.int .u32 ((l.getD j 0 : Nat) : Int))) (go_keep) ((go_at_call 25; refine (tc_release (HT.out.calm (Below.refl _ _).drew) HJL.out).mono ?_; rintro e w3 ⟨A', m, hcap', hfl, rfl, hT3⟩; obtain ⟨hd0, hd1⟩ := hT3.cells; rw [HL.out] at hd1; have hd2 := (hT3.row.cellAt j (by rw [HL.out]; omega)).trans (held_get HJL.out)))
        have hsz3 : w3.heap.size ≤ w3.drew.heap.size := Nat.le_refl _
        have hT3d := hT3.calm (Below.refl _ _).drew
        have hxc := row_caps hT3.row
        have hjx : (j : Int) ≤ (xc : Int) := by have := HL.out; omega
        have hLx : (L : Int) ≤ (xc : Int) := by have := HL.out; omega
        have hjL2 : (j : Int) + 1 ≤ (L : Int) := by omega
        have hxm : (xc : Int) ≤ 9223372036854775807 := by have := hxc.2; unfold maxLen at this; omega
        clear hc0 hc1 hcj2 hxc hfl hd0 hd1 hd2
        obtain ⟨hc0, hc1⟩ := hT3.cells
        rw [HL.out] at hc1
        have hU1 := u32at_take hT3d.row HLT.out j (by have := HJL.out; omega)
        have hU2 := u32at_rest hT3d.row HLT.out (j + 1)
        have hjw : IntKind.i64.wrap ((j : Int) + 1) = ((j + 1 : Nat) : Int) := by rw [IntKind.wrap_i64]; omega
        have hjL3 : ((j + 1 : Nat) : Int) ≤ (L : Int) := by omega
        have hj03 : (0 : Int) ≤ (j : Int) + 1 := by omega
        have hjt : (((j + 1 : Nat) : Int)).toNat = j + 1 := Int.toNat_natCast _
        have HT3 := Lib.hid hT3
        clear hT3 hT3d
        go_wp2_with fail
        go_region_law (first
          | (refine step_append_at rfl (.const (.slice none 0 0)) (.tmp 120) 33 rfl w3.heap.size 41 i0 (.int .u32 0) 4 Try.underlying33 ji jz0 jz1 jz2 rfl (.slice none 0 0) 0 [] rfl (World.ownsRow_nil _ _ _ _) (some ⟨g, 0, none⟩) xc (l.take j) j (by rw [List.length_take, HL.out]; omega) rfl hU1 (by unfold maxLen; omega) (by omega) hsz3 ?_; intro v5 w5 ho5 hg5; rw [Nat.zero_add, List.nil_append] at ho5; have hb5 : Below w3.heap.size w3.drew w5 := (Below.refl _ _).grown hg5 (Nat.le_refl _) (fun k hk => by cases hk); have hU5 := hU2.below hb5; have hc5 := (hb5.block q HT3.out.lt).trans HT3.out.box; rw [HL.out] at hc5; have hc51 := (two_cells hc5).2; have hc50 := (two_cells hc5).1; have hsz5 := hb5.size)
          | (refine step_append_at rfl (.tmp 121) (.tmp 128) 33 rfl w3.heap.size 41 i0 (.int .u32 0) 4 Try.underlying33 ji jz0 jz1 jz2 rfl v5 j (u32s (l.take j)) rfl ho5 _ (xc - (j + 1)) (l.drop (j + 1)) (L - (j + 1)) (by rw [List.length_drop, HL.out]) rfl hU5 (by unfold maxLen; omega) (by omega) hsz5 ?_; intro v6 w6 ho6 hg6; have hb6 : Below w3.heap.size w3.drew w6 := hb5.grown hg6 hsz5 (row_from ho5); obtain ⟨va, vc, rfl⟩ := row_val ho6; have hc6 := (hb6.block q HT3.out.lt).trans HT3.out.box; have hc61 := (two_cells hc6).2; have hf61 := frozen_of_row w6 q 1 _ _ hc6))
        all_goals
          have hlen : (l.take j ++ l.drop (j + 1)).length = j + (L - (j + 1)) := by rw [List.length_append, List.length_take, List.length_drop, HL.out]; omega
          have HLEN := Lib.hid hlen
          have h9 := HT3.out.renew (l' := l.take j ++ l.drop (j + 1)) (v := .slice va (j + (L - (j + 1))) vc) (w' := w6) (by rw [hlen, u32s_app]; exact ho6) ((Below.refl _ _).drew.trans hb6)
          have H9 := Lib.hid h9
          clear hlen h9 hU1 hU2 hU5 ho5 ho6 hc0 hc1 hc5 hc51 hc50 hc6 hc61 hf61 hjw hjt
          go_wp2_with fail
          all_goals
            go_ret
            exact ⟨A', va, vc, _, rfl, hcap', by rw [HLEN.out, HL.out]; omega, by rw [HLEN.out]; exact H9.out⟩
  · have hpre : ∀ wx : World, Below w1.heap.size w1 wx → wx.cell? ⟨q, 0, none⟩ = some (.pointer (some pa)) ∧ wx.cell? ⟨q, 1, none⟩ = some (.slice xa L xc) ∧ wx.cell? ⟨sb, 1, none⟩ = some (.int .i64 key) ∧ wx.cell? ⟨sb, 2, none⟩ = some (.int .i64 val) ∧ wx.cell? ⟨sb, 3, none⟩ = some (.int .u32 a) ∧ wx.cell? ⟨sb, 4, none⟩ = some (.int .u32 b) := fun wx hb => by
      obtain ⟨e0, e1⟩ := (H1.out.calm hb).cells
      rw [HL.out] at e1
      obtain ⟨_, t1, t2, t3, t4⟩ := row5c ((hb.block sb (Array.getElem?_eq_some_iff.1 HS.out).1).trans HS.out)
      exact ⟨e0, e1, t1, t2, t3, t4⟩
    have HPRE := Lib.hid hpre
    have hbd : Below w1.heap.size w1 w1.drew := (Below.refl _ _).drew
    clear hpre hrow
    rcases hr with rfl | rfl | rfl
    all_goals
      go_upto_region 2 with fail
      go_cut [10, 11] (fun s10 s11 wx => MadeCut I B w0 q (.pointer (some pa)) (.slice xa l.length xc) A rd l s10 s11 wx)
      case first =>
        go_region_held3 (fun w' => w'.cell? ⟨q, 0, none⟩ = some (.pointer (some pa)) ∧ w'.cell? ⟨q, 1, none⟩ = some (.slice xa L xc) ∧ w'.cell? ⟨sb, 1, none⟩ = some (.int .i64 key) ∧ w'.cell? ⟨sb, 2, none⟩ = some (.int .i64 val) ∧ w'.cell? ⟨sb, 3, none⟩ = some (.int .u32 a) ∧ w'.cell? ⟨sb, 4, none⟩ = some (.int .u32 b)) (go_keep) (first
          | (go_at_call_of 68 (Value.int .u32 a); refine (HPICK.out a _ a1 a2 (by exact ⟨rfl, rfl, rfl, Nat.le_refl _, fun _ _ => rfl⟩)).mono ?_; rintro e wx ⟨y, dd, hy, rfl, rfl⟩)
          | (go_at_call_of 68 (Value.int .u32 b); refine (HPICK.out b _ b1 b2 (by exact ⟨rfl, rfl, rfl, Nat.le_refl _, fun _ _ => rfl⟩)).mono ?_; rintro e wx ⟨z, dz, hz, rfl, rfl⟩)
          | (go_at_call 34; refine (tc_make_at (H1.out.calm (by exact ⟨rfl, rfl, rfl, Nat.le_refl _, fun _ _ => rfl⟩)) (I.below HIS.out (by exact ⟨rfl, rfl, rfl, Nat.le_refl _, fun _ _ => rfl⟩)) HF2.out HF3.out HF4.out ⟨k3, k4, idx_lt HLT.out (by assumption), idx_lt HLT.out (by assumption)⟩ (by assumption) (by assumption) hcap (by have := HL0.out; omega)).mono ?_; rintro e wx ⟨⟨F', hal⟩, A', i, er, l', hcap', rfl, hTx, hi4, hor⟩; obtain ⟨hd0, hd1⟩ := hTx.cells; rw [HL.out] at hd1; obtain ⟨_, t1, t2, t3, t4⟩ := row5c ((hal.block sb HSB.out HF5.out).trans HS.out)))
        all_goals (go_wp2_with fail; go_meet; exact ⟨A', i, er, l', hcap', rfl, rfl, hTx, hi4, hor⟩)
      case' rest =>
        rename World => w2
        obtain ⟨A', i, er, l', hcap', rfl, rfl, hT2, hi4, hor⟩ := hcut
        clear hc0 hc1 s0 s1 s2 s3 s4 hbd
        obtain ⟨hc0, hc1⟩ := hT2.cells
        rw [HL.out] at hc1
        rcases hor with ⟨rfl, rfl⟩ | ⟨rfl, hll⟩
        · have hT4 := hT2.calm (below_new w2 (Obj.cells #[Value.int .u32 (i : Int)] 41))
          have hrow := hT4.row
          have hB := hT4.hB
          rw [HL.out] at hrow
          have HT4 := Lib.hid hT4
          clear hT2 hT4
          go_wp2_with (at_builtin; refine wpList_append_own_at _ rfl (.tmp 43) (.tmp 45) 33 rfl B 41 i0 (.int .u32 0) 1 4 Try.underlying33 ji jz0 jz1 jz2 rfl (by decide) _ L (u32s l) rfl hrow ⟨w2.heap.size, 0, none⟩ 1 1 [.int .u32 (i : Int)] rfl rfl (cell_new1 _ _ _) (one_cell1 _ _) (by unfold maxLen; omega) (by omega) hB ?_; intro v6 w6 ho6 hg6 _ hv6; obtain ⟨va, vc, rfl⟩ := row_val ho6; have hq6 := (hg6.block q HT4.out.lt (fun e => HT4.out.qx (by rw [HL.out]; exact e.symm))).trans HT4.out.box; have hcq := (two_cells hq6).2; have hfq := frozen_of_row w6 q 1 _ _ hq6)
          go_ret
          refine ⟨A', va, vc, l ++ [i], rfl, hcap', by simp, ?_⟩
          have h9 := HT4.out.grew (l' := l ++ [i]) (v := .slice va (l.length + 1) vc) (by rw [List.length_append, u32s_app, HL.out]; exact ho6) (by rw [HL.out]; exact hg6) (by rw [HL.out]; exact hv6)
          rw [HL.out] at h9
          rw [List.length_append, HL.out]
          exact h9
        · rw [hll] at hT2
          have HT2 := Lib.hid hT2
          clear hT2 hll
          go_wp2_with fail
          go_ret
          exact ⟨A', xa, xc, l, rfl, hcap', by omega, HT2.out⟩
end
end Go.Proofs.Ytnmookemeibioaa
