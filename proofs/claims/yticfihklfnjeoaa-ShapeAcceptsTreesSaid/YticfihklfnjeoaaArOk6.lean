/- The program's arena: a reference less. -/
import Derived.Test.YticfihklfnjeoaaArOk5
set_option linter.unusedVariables false
namespace Go.Proofs.Yticfihklfnjeoaa
open Go.RowKit
section
variable {I : Impl} {w w' : World} {ab : Nat} {sp : Addr} {A A' : Ar} {rd : Int} {ca : Option Addr} {cc g : Nat} {Fs Fs' : Nat → Prop}
def ARem (I : Impl) (w : World) (ab : Nat) (sp : Addr) (A : Ar) (rd : Int) (g cc : Nat) (Fs : Nat → Prop) (i : Nat) (e : Ending) (w' : World) : Prop :=
  ∃ Fs', Alters (FootA ab (some ⟨g, 0, none⟩) Fs) (FootA ab (some ⟨g, 0, none⟩) Fs') w w' ∧
    (A.σ.on i = false → e = .returned (.tuple #[.agg (nodA Nd.zero), .bool false]) ∧ LieA I w' ab sp A rd (some ⟨g, 0, none⟩) cc Fs') ∧
    (A.σ.on i = true → A.cnt i ≠ 1 → e = .returned (.tuple #[.agg (nodA Nd.zero), .bool false]) ∧ LieA I w' ab sp (A.dec i) rd (some ⟨g, 0, none⟩) cc Fs') ∧
    (A.σ.on i = true → A.cnt i = 1 → e = .returned (.tuple #[.agg (nodA (A.nd i)), .bool true]) ∧ LieA I w' ab sp (A.drop i) rd (some ⟨g, 0, none⟩) cc Fs')
set_option maxHeartbeats 4000000 in
set_option maxRecDepth 100000 in
theorem a_remove (h : LieA I w ab sp A rd (some ⟨g, 0, none⟩) cc Fs) (i : Nat) (hi : i < 4294967296) (hp1 : A.σ.on i = true → 1 ≤ A.cnt i) :
    Calls Try.prog 62 #[.pointer (some ⟨ab, 0, none⟩), .int .u32 (i : Int)] w (ARem I w ab sp A rd g cc Fs i) := by
  have HU : Hid _ := Lib.hid Try.underlying47
  have HIN := Lib.hid nodInfo
  have hb1 := below_al w (Obj.cells (nodA Nd.zero) 47)
  have HP := Lib.hid (heap_alloc_new w (Obj.cells (nodA Nd.zero) 47))
  have HB1 := Lib.hid hb1
  have HOK := Lib.hid h.ok
  have HOFF := Lib.hid h.off
  have HFIT := Lib.hid h.fit
  have HDOM : Hid (∀ k, FootA ab (some ⟨g, 0, none⟩) Fs k → k < w.heap.size) := h.dom
  have H2 := Lib.hid (h.below hb1)
  have HPOS := Lib.hid hp1
  clear h hb1 hp1
  go_enter Try.func62, Try.ntmps62
  go_upto_region 1 with fail
  rw [show #[Value.int .i64 0, .int .i64 0, .int .u32 0, .int .u32 0, .int .i64 0, .int .i64 0, .int .i64 0, .int .i64 0] = nodA Nd.zero from rfl]
  generalize w.alloc (Obj.cells (nodA Nd.zero) 47) = w1 at HP HB1 H2 ⊢
  obtain ⟨p, hp⟩ : ∃ p, w.heap.size = p := ⟨_, rfl⟩
  rw [hp] at HP HDOM ⊢
  have HPP := Lib.hid hp
  clear hp
  by_cases ho : A.σ.on i = true
  · have hle := HOK.out.on i ho
    have hcap := HOK.out.cap2
    have hpos := HPOS.out ho
    obtain ⟨j, rfl⟩ : ∃ j, i = j + 1 := ⟨i - 1, by omega⟩
    have hj : j < A.σ.cap := by omega
    have HO := Lib.hid ho
    have HJ := Lib.hid hj
    have hj4 : (j : Int) + 1 < 4294967296 := by omega
    clear ho hle hj hi hcap
    go_wp2_with fail
    refine (a_cell_on H2.out j HO.out).mono ?_
    rintro e w2 ⟨rfl, q2, rfl⟩
    have hb2 : Below w1.heap.size w1 (w1.drewN q2) := below_drewN (Below.refl _ _) q2
    generalize w1.drewN q2 = w2 at hb2 ⊢
    have HP2 := Lib.hid (keep_blk HP.out hb2)
    have h3 := H2.out.below hb2
    have HBB := Lib.hid (trans_of' HB1.out hb2)
    clear hb2
    obtain ⟨_, _, _, _, _, _, _, _, c8⟩ := h3.nine HJ.out
    have f8 := h3.cels.frozenAt (j * 9 + 8)
    obtain ⟨C, hC⟩ : ∃ C, A.cnt (j + 1) = C := ⟨_, rfl⟩
    have hfit := HFIT.out (j + 1)
    rw [hC] at c8 hpos hfit
    obtain ⟨h4, ha4⟩ := h3.putC HO.out (C - 1) (by omega)
    have hP4 : (w2.setCell ⟨g, j * 9 + 8, none⟩ (.int .i64 (C - 1))).heap[p]? = some (Obj.cells (nodA Nd.zero) 47 (0, 0)) := (heap_setCell_other _ _ _ _ (show p ≠ g by have := HDOM.out g (.inr (.inl ⟨_, rfl, rfl⟩)); omega)).trans HP2.out
    have HC := Lib.hid hC
    have H4 := Lib.hid h4
    have HP4 := Lib.hid hP4
    have HA4 := Lib.hid ((Alters.of_below HBB.out).trans ha4)
    have hfit2 := hfit.2
    clear h3 h4 ha4 hP4 hC hfit
    go_upto_region 5 with fail
    have HPC := Lib.hid hpos
    clear c8 f8 hpos hfit2
    generalize w2.setCell ⟨g, j * 9 + 8, none⟩ (.int .i64 (C - 1)) = w3 at H4 HP4 HA4 ⊢
    obtain ⟨g0, g1, g2, g3, g4, g5, g6, g7, g8⟩ := H4.out.nine HJ.out
    rw [show (A.putC (j + 1) (C - 1)).cnt (j + 1) = C - 1 from if_pos rfl] at g8
    rw [show (A.putC (j + 1) (C - 1)).nd (j + 1) = A.nd (j + 1) from rfl] at g0 g1 g2 g3 g4 g5 g6 g7
    obtain ⟨D, hD⟩ : ∃ D, C - 1 = D := ⟨_, rfl⟩
    rw [hD] at g8 H4
    have HD := Lib.hid hD
    clear hD
    by_cases hc1 : C = 1
    · obtain rfl : D = 0 := by have := HD.out; omega
      have HC1 := Lib.hid hc1
      clear hc1
      have hal4 := below_al w3 (Obj.cells (nodA (A.nd (j + 1))) 47)
      have hx4 := heap_alloc_new w3 (Obj.cells (nodA (A.nd (j + 1))) 47)
      have H5 := Lib.hid (H4.out.below hal4)
      have HP5 := Lib.hid (keep_blk HP4.out hal4)
      have HA5 := Lib.hid (HA4.out.trans (.of_below hal4))
      have HX5 := Lib.hid hx4
      have HPL : Hid (p < w3.heap.size) := (Array.getElem?_eq_some_iff.1 HP4.out).1
      clear hal4 hx4
      go_upto_region 8 with fail
      rw [show #[Value.int .i64 (A.nd (j + 1)).key, .int .i64 (A.nd (j + 1)).val, .int .u32 ((A.nd (j + 1)).left : Int), .int .u32 ((A.nd (j + 1)).right : Int), .int .i64 (A.nd (j + 1)).size, .int .i64 (A.nd (j + 1)).sum, .int .i64 (A.nd (j + 1)).mn, .int .i64 (A.nd (j + 1)).mx] = nodA (A.nd (j + 1)) from rfl]
      clear g0 g1 g2 g3 g4 g5 g6 g7 g8
      generalize w3.alloc (Obj.cells (nodA (A.nd (j + 1))) 47) = w4 at H5 HP5 HA5 HX5 ⊢
      obtain ⟨p7, hp7⟩ : ∃ p7, w3.heap.size = p7 := ⟨_, rfl⟩
      rw [hp7] at HX5 HPL ⊢
      clear hp7
      obtain ⟨g0, g1, g2, g3, g4, g5, g6, g7, g8⟩ := H5.out.nine HJ.out
      have f0 := H5.out.cels.frozenAt (j * 9)
      have f1 := H5.out.cels.frozenAt (j * 9 + 1)
      have f2 := H5.out.cels.frozenAt (j * 9 + 2)
      have f3 := H5.out.cels.frozenAt (j * 9 + 3)
      have f4 := H5.out.cels.frozenAt (j * 9 + 4)
      have f5 := H5.out.cels.frozenAt (j * 9 + 5)
      have f6 := H5.out.cels.frozenAt (j * 9 + 6)
      have f7 := H5.out.cels.frozenAt (j * 9 + 7)
      have f8 := H5.out.cels.frozenAt (j * 9 + 8)
      obtain ⟨h6, ha6⟩ := RawA.sets [.int .i64 0, .int .i64 0, .int .u32 0, .int .u32 0, .int .i64 0, .int .i64 0, .int .i64 0, .int .i64 0, .int .i64 0] (j * 9) H5.out.raw
      have hcv : celV (A.drop (j + 1)) (j + 1) = [.int .i64 0, .int .i64 0, .int .u32 0, .int .u32 0, .int .i64 0, .int .i64 0, .int .i64 0, .int .i64 0, .int .i64 0] := by
        unfold celV Ar.drop
        show ndV (if j + 1 = j + 1 then _ else _) ++ [Value.int IntKind.i64 (if j + 1 = j + 1 then _ else _)] = _
        rw [if_pos rfl, if_pos rfl]
        rfl
      rw [← hcv, cels_patch (A.putC (j + 1) 0) (A.drop (j + 1)) rfl HJ.out (fun i hi => if_neg hi) (fun i hi => by show (if i = j + 1 then (0 : Int) else A.cnt i) = (if i = j + 1 then (0 : Int) else A.cnt i); rfl), hcv] at h6
      have hP6 := (ha6.block p (Array.getElem?_eq_some_iff.1 HP5.out).1 (fun hf => by have := HDOM.out p hf; omega)).trans HP5.out
      have hX6 := (ha6.block p7 (Array.getElem?_eq_some_iff.1 HX5.out).1 (fun hf => by have := HDOM.out p7 hf; have := HPL.out; omega)).trans HX5.out
      have H6 := Lib.hid h6
      have HA6 := Lib.hid (HA5.out.trans ha6)
      have HP6 := Lib.hid hP6
      have HX6 := Lib.hid hX6
      clear h6 ha6 hcv hP6 hX6
      go_upto_region 9 with fail
      rw [sets9]
      clear g0 g1 g2 g3 g4 g5 g6 g7 g8 f0 f1 f2 f3 f4 f5 f6 f7 f8
      generalize w4.setCells g (j * 9) _ = w5 at H6 HA6 HP6 HX6 ⊢
      obtain ⟨c0, c1, c2⟩ := H6.out.cells
      go_wp2_with fail
      refine (I.release _ _ _ (j + 1) _ H6.out.slots (by omega)).mono ?_
      rintro e w6 ⟨Fs', ha7, _, h7⟩
      obtain ⟨rfl, h8⟩ := h7 HO.out
      obtain ⟨h9, ha9⟩ := H6.out.step ha7 h8 rfl
      have hFp : ∀ k, Fs k → k < p := fun k hk => HDOM.out k (.inr (.inr hk))
      have hP7 := (ha7.block p (Array.getElem?_eq_some_iff.1 HP6.out).1 (fun hf => by have := hFp p hf; omega)).trans HP6.out
      have hX7 := (ha7.block p7 (Array.getElem?_eq_some_iff.1 HX6.out).1 (fun hf => by have := hFp p7 hf; have := HPL.out; omega)).trans HX6.out
      have HNF : Hid (¬ Fs' p) := fun hf => by
        rcases ha7.foot p hf with h1 | h1
        · have := hFp p h1; omega
        · have := (Array.getElem?_eq_some_iff.1 HP6.out).1; omega
      have h10 := h9.lie (A := A.drop (j + 1)) rfl rfl (fun i hi => by
        have hi' : (A.σ.put (j + 1)).on i = false := hi
        show (if i = j + 1 then (0 : Int) else A.cnt i) = 0 ∧ (if i = j + 1 then Nd.zero else A.nd i) = Nd.zero
        by_cases e : i = j + 1
        · rw [if_pos e, if_pos e]; exact ⟨rfl, rfl⟩
        · rw [if_neg e, if_neg e]
          rw [put_other _ e] at hi'
          exact HOFF.out i hi') (fun i => by
        show 0 ≤ (if i = j + 1 then (0 : Int) else A.cnt i) ∧ (if i = j + 1 then (0 : Int) else A.cnt i) ≤ 9223372036854775807
        split
        · exact ⟨by decide, by decide⟩
        · exact HFIT.out i)
      have H10 := Lib.hid h10
      have HA10 := Lib.hid (HA6.out.trans ha9)
      have HP7 := Lib.hid hP7
      have HX7 := Lib.hid hX7
      clear c0 c1 c2 ha7 h7 h8 h9 ha9 hFp hP7 hX7 h10
      obtain ⟨z0, z1, z2, z3, z4, z5, z6, z7⟩ := row8v HX7.out
      go_wp2_with (refine wpList_store_row rfl 47 (.tmp 4) (.tmp 40) rfl p (nodA (A.nd (j + 1))) rfl rfl 47 _ HP7.out HIN.out rfl (nod_ones _) ?_)
      refine bodyPost_ret (results_row_tmp rfl _ _ p 47 (nodA (A.nd (j + 1))) (0, 0) _ rfl (setRow_heap _ _ _ _ _ _ HP7.out) HU.out rfl HIN.out) rfl ?_
      have hpp := HPP.out
      refine ⟨Fs', alt_row HA10.out (by omega), fun h => (by rw [HO.out] at h; cases h), fun _ h => absurd (HC.out.trans HC1.out) h, fun _ _ => ⟨rfl, ?_⟩⟩
      refine H10.out.keep fun k hk => setRow_other _ _ _ _ fun e => ?_
      subst e
      rcases hk with hk | hk | hk
      · have := HDOM.out k (.inl hk); omega
      · have := HDOM.out k (.inr (.inl hk)); omega
      · exact HNF.out hk
    · have hgt : (0 : Int) < D := by have := HD.out; have := HPC.out; omega
      have HC1 := Lib.hid hc1
      clear hc1
      go_wp2_with (refine wpList_store_row rfl 47 (.tmp 4) (.tmp 26) rfl p (nodA Nd.zero) rfl rfl 47 _ HP4.out HIN.out rfl (nod_ones _) ?_)
      refine bodyPost_ret (results_row_tmp rfl _ _ p 47 (nodA Nd.zero) (0, 0) _ rfl (setRow_heap _ _ _ _ _ _ HP4.out) HU.out rfl HIN.out) rfl ?_
      have hpp := HPP.out
      refine ⟨Fs, alt_row HA4.out (by omega), fun h => (by rw [HO.out] at h; cases h), fun _ _ => ⟨rfl, ?_⟩, fun _ h => absurd (HC.out.symm.trans h) HC1.out⟩
      have e : A.dec (j + 1) = A.putC (j + 1) D := by unfold Ar.dec Ar.putC; rw [HC.out, HD.out]
      rw [e]
      exact H4.out.keep fun k hk => setRow_other _ _ _ _ (by have := HDOM.out k hk; omega)
  · have ho' : A.σ.on i = false := by simpa using ho
    have HO := Lib.hid ho'
    clear ho ho'
    go_wp2_with fail
    refine (a_cell_off H2.out i hi HO.out).mono ?_
    rintro e w2 ⟨rfl, q2, rfl⟩
    have hb2 : Below w1.heap.size w1 (w1.drewN q2) := below_drewN (Below.refl _ _) q2
    generalize w1.drewN q2 = w2 at hb2 ⊢
    have HP2 := Lib.hid (keep_blk HP.out hb2)
    have H3 := Lib.hid (H2.out.below hb2)
    have HBB := Lib.hid (trans_of' HB1.out hb2)
    clear hb2
    go_wp2_with (refine wpList_store_row rfl 47 (.tmp 4) (.tmp 13) rfl p (nodA Nd.zero) rfl rfl 47 _ HP2.out HIN.out rfl (nod_ones _) ?_)
    refine bodyPost_ret (results_row_tmp rfl _ _ p 47 (nodA Nd.zero) (0, 0) _ rfl (setRow_heap _ _ _ _ _ _ HP2.out) HU.out rfl HIN.out) rfl ?_
    have hpp := HPP.out
    exact ⟨Fs, alt_row (Alters.of_below HBB.out) (by omega), fun _ => ⟨rfl, H3.out.keep fun k hk => setRow_other _ _ _ _ (by have := HDOM.out k hk; omega)⟩, fun h => (by rw [HO.out] at h; cases h), fun h => (by rw [HO.out] at h; cases h)⟩
end
end Go.Proofs.Yticfihklfnjeoaa
