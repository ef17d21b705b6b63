/- The reference's Alloc takes the slot that was released last. -/
import Derived.Test.YtnmookemeibioaaRefSlots4
set_option linter.unusedVariables false
namespace Go.Proofs.Ytnmookemeibioaa
open Go.RowKit
section
variable {B : Nat} {G : Nat → Prop} {w : World} {σ : St} {st : List Nat} {fr : Nat} {sa ga oa : Option Addr} {sc gc oc : Nat}
theorem row_cap {w : World} {B n c : Nat} {e : TypeId} {a : Option Addr} {xs : List Value} (h : w.ownsRow B e 1 (.slice a n c) n xs) : n ≤ c := by
  rcases h.2 with ⟨hv, hn⟩ | ⟨g2, cap, cur, hv, hB, hc, hn, hcm, hs, ht⟩
  · omega
  · simp only [Value.slice.injEq] at hv
    obtain ⟨_, _, rfl⟩ := hv
    exact hn
theorem mid_start {s0 : List Nat} {n : Nat} {w3 : World} {v0 : Value} (h : RefAt B G w σ st fr sa ga oa sc gc oc) (hB : B ≤ w.heap.size)
    (hg : ((w.alloc (Obj.cells #[Value.int .i64 (σ.cap : Int), .slice sa n sc, .int .i64 (fr : Int), .slice ga σ.cap gc, .slice oa σ.cap oc] 56)).alloc
      (Obj.cells #[Value.int .i64 0, .slice none 0 0, .int .i64 0, .slice none 0 0, .slice none 0 0] 56)).grownBy w3 none)
    (ho : w3.ownsRow (w.heap.size + 2) 41 1 v0 s0.length (u32s s0)) :
    w3.cell? ⟨w.heap.size, 1, none⟩ = some (.slice sa n sc) ∧ w3.frozen? ⟨w.heap.size, 1, none⟩ = false ∧ Mid w.heap.size B w (w3.setCell ⟨w.heap.size, 1, none⟩ v0) σ s0 (.int .i64 (σ.cap : Int)) v0 (.int .i64 (fr : Int)) ga oa gc oc := by
  have hb : ∀ A Z, Below w.heap.size w ((w.alloc A).alloc Z) := fun A Z => ((Below.refl _ _).alloc (Nat.le_refl _) _).alloc (by simp) _
  have hs := hg.size
  simp at hs
  have hx := (hg.block w.heap.size (by simp; omega) (by simp)).trans (heap_alloc2_old _ _ _)
  have hy := (hg.block (w.heap.size + 1) (by simp) (by simp)).trans (heap_alloc2_new _ _ _)
  have hb3 := (hb (Obj.cells #[Value.int .i64 (σ.cap : Int), .slice sa n sc, .int .i64 (fr : Int), .slice ga σ.cap gc, .slice oa σ.cap oc] 56)
    (Obj.cells #[Value.int .i64 0, .slice none 0 0, .int .i64 0, .slice none 0 0, .slice none 0 0] 56)).grown hg (by simp; omega) (fun k h => by cases h)
  refine ⟨by rw [cell_of_row _ _ _ _ _ _ hx]; rfl, frozen_of_row w3 w.heap.size 1 _ _ hx, ?_⟩
  refine ⟨by rw [size_set]; omega, by rw [heap_setCell_same _ _ _ _ _ _ hx]; rfl, ?_, hb3.setCell (Nat.le_refl _) _, row_mono (row_cellset ho fun e => ?_) (by omega), fun k hk => .inr (row_from ho k hk), row_cellset (row_below h.gen hb3) fun e => ?_, row_cellset (row_below h.on hb3) fun e => ?_,
    fun k hk => (row_lt h.gen k hk).2, fun k hk => (row_lt h.on k hk).2⟩
  · rw [heap_setCell_other _ _ _ _ (by show w.heap.size + 1 ≠ w.heap.size; omega)]; exact hy
  · have := row_from ho w.heap.size e; omega
  · have := (row_lt h.gen w.heap.size e).2; omega
  · have := (row_lt h.on w.heap.size e).2; omega
set_option maxHeartbeats 4000000 in
set_option maxRecDepth 100000 in
theorem ref_take_snoc {s0 : List Nat} {X : Nat} (h : RefAt B G w σ (s0 ++ [X]) fr sa ga oa sc gc oc) (hok : σ.Ok) (i : Nat) (t : List Nat) (hf : σ.free = i :: t) (hB : B ≤ w.heap.size) :
    Calls Try.prog 59 #[.agg (refV σ (s0 ++ [X]) fr sa ga oa sc gc oc)] w (RefTook B G w σ i t) := by
  obtain ⟨i0, ji, jz0, jz1, jz2⟩ := info_parts u32sInfo
  obtain ⟨i1, ki, kz0, kz1, kz2⟩ := info_parts boolsInfo
  have HU := Lib.hid Try.underlying56
  have hin : (Try.prog.info? 56).map (·.size) = some 5 := by kernel_rfl
  have HI := Lib.hid hin
  have him := (hok.free i).1 (by rw [hf]; simp)
  obtain ⟨hi1, hi2, hi0⟩ := him
  have hcap := hok.cap2
  have hst : (s0 ++ [X]).length ≤ 65536 := by have h1 := hok.len; rw [h.free] at h1; simp at h1 ⊢; omega
  have hHF : Hid (i :: t = (s0 ++ [X]).reverse ++ List.range' fr (σ.cap + 1 - fr)) := by rw [← hf]; exact h.free
  have HI0 := Lib.hid hi0
  clear hf hi0 hin

  have hX : i = X ∧ t = s0.reverse ++ List.range' fr (σ.cap + 1 - fr) := by
    have h1 := hHF.out
    simpa using h1
  obtain ⟨rfl, ht⟩ := hX
  have hl : (s0 ++ [i]).length = s0.length + 1 := by simp
  obtain ⟨gs, rfl⟩ := row_head h.stack (by omega)
  have hlt := (row_lt h.stack gs rfl).2
  have hcs : w.cell? ⟨gs, s0.length, none⟩ = some (.int .u32 (i : Int)) := by
    rw [h.stack.cellAt s0.length (by omega), u32s_get (by omega)]; simp
  have hpre := row_pre h.stack (m := s0.length) (by omega) (by omega)
  have e1 : (u32s (s0 ++ [i])).take s0.length = u32s s0 := by rw [u32s_snoc, List.take_left' (by simp [u32s])]
  rw [e1] at hpre
  unfold refV
  rw [hl]
  rw [hl] at hst
  have hsi : (s0.length : Int) ≤ 65535 := by omega
  clear hst e1
  have HH := Lib.hid h
  have HOK := Lib.hid hok
  have HPRE := Lib.hid hpre
  have HT := Lib.hid ht
  clear h hok hpre ht
  go_enter Try.func59, Try.ntmps59
  clear hl
  have hsc := row_cap HPRE.out
  have hsc2 : (s0.length : Int) ≤ (sc : Int) := by omega
  have hb : ∀ A Z, Below w.heap.size w ((w.alloc A).alloc Z) := fun A Z => ((Below.refl _ _).alloc (Nat.le_refl _) _).alloc (by simp) _
  have hz : ∀ A Z, w.heap.size + 2 ≤ ((w.alloc A).alloc Z).heap.size := fun A Z => by simp
  have HBL := Lib.hid hb
  have HZ := Lib.hid hz
  clear hb hz
  go_wp2_with (at_builtin; refine wpList_append_row rfl (.const (.slice none 0 0)) (.tmp 23) 33 rfl (w.heap.size + 2) 41 i0 (.int .u32 0) 4 Try.underlying33 ji jz0 jz1 jz2 rfl (.slice none 0 0) 0 [] rfl (World.ownsRow_nil _ _ _ _) B (some ⟨gs, 0, none⟩) s0.length sc (u32s s0) rfl (row_below HPRE.out (HBL.out _ _)) (u32s_one _) (by unfold maxLen; omega) (by omega) (HZ.out _ _) ?_; intro v0 w3 ho0 hg0; rw [Nat.zero_add, List.nil_append] at ho0; obtain ⟨a0, c0, rfl⟩ := row_val ho0; obtain ⟨hc1, hf1, hM⟩ := mid_start HH.out hB hg0 ho0; have HM := Lib.hid hM; have HO0 := Lib.hid ho0; clear hM hg0 ho0)
  have hfrom : ∀ k, (Value.slice a0 s0.length c0).ownBlock = some k → w.heap.size ≤ k := fun k hk => by have := row_from HO0.out k hk; omega
  have hM := HM.out
  clear HM
  generalize w3.setCell ⟨w.heap.size, 1, none⟩ (.slice a0 s0.length c0) = W at hM ⊢
  have hMd := hM.drew
  have h3 := hMd.c3.1
  have h4 := hMd.c4.1
  have hgen := hMd.gen
  have hon := hMd.on
  have hsz := hMd.size
  have HM := Lib.hid hMd
  clear hM hMd hc1 hf1 hcs
  go_region_law (first
    | (refine step_append_row rfl (.const (.slice none 0 0)) (.tmp 39) 33 rfl W.heap.size 41 i0 (.int .u32 0) 4 Try.underlying33 ji jz0 jz1 jz2 rfl (.slice none 0 0) 0 [] rfl (World.ownsRow_nil _ _ _ _) B ga σ.cap gc (gens σ) rfl hgen (gens_one _) (by unfold maxLen; omega) (by omega) (Nat.le_refl _) ?_; intro v1 W1 ho1 hg1; rw [Nat.zero_add, List.nil_append] at ho1; have hM1 := HM.out.grown hg1; have h3a := hM1.c3.1; have h4a := hM1.c4.1; have hona := hM1.on; have hsza := hM1.size; have HM1 := Lib.hid hM1; clear hM1)
    | (refine step_append_row rfl (.const (.slice none 0 0)) (.tmp 42) 54 rfl (w.heap.size + 2) 4 i1 (.bool false) 1 Try.underlying54 ki kz0 kz1 kz2 rfl (.slice none 0 0) 0 [] rfl (World.ownsRow_nil _ _ _ _) B oa σ.cap oc (ons σ) rfl hona (ons_one _) (by unfold maxLen; omega) (by omega) hsza ?_; intro v2 W2 ho2 hg2; rw [Nat.zero_add, List.nil_append] at ho2; have hM2 := HM1.out.grown hg2; obtain ⟨a1, c1, rfl⟩ := row_val ho1; obtain ⟨a2, c2, rfl⟩ := row_val ho2; have ho1b := row_keep ho1 (fun k hk => hg2.block k (row_lt ho1 k hk).2 (by simp [Value.ownBlock])); have h3b := hM2.c3; have h4b := hM2.c4; obtain ⟨h3c, h3f⟩ := h3b; obtain ⟨h4c, h4f⟩ := h4b; have HM2 := Lib.hid hM2; clear hM2))
  all_goals (rename_i K hk; refine hk _ _ ?_; clear hk)
  all_goals (
    obtain ⟨g1, rfl⟩ := row_head ho1b (by omega)
    obtain ⟨g2, rfl⟩ := row_head ho2 (by omega)
    have hF := mid_fin HM2.out hsz (fun k hk => (row_lt HM.out.stack k hk).2) ho1b ho2 (Nat.le_refl _)
    clear ho1 ho1b ho2 h3 h4 h3a h4a hg1 hg2 h3c h3f h4c h4f hgen hon hona hsz hsza HM HM1 HM2
    generalize (W2.setCell ⟨w.heap.size, 3, none⟩ (.slice (some ⟨g1, 0, none⟩) σ.cap c1)).setCell ⟨w.heap.size, 4, none⟩ (.slice (some ⟨g2, 0, none⟩) σ.cap c2) = W3 at hF ⊢
    have hi3 : ((i : Int) - 1).toNat = i - 1 := by omega
    have hi4 : (1 : Int) ≤ (i : Int) := by omega
    have h3 := hF.c3
    have hcg := (hF.gen.cellAt (i - 1) (by omega)).trans (gens_at σ (i - 1) (by omega))
    have hfg := hF.gen.frozenAt (i - 1)
    rw [Nat.sub_add_cancel hi1] at hcg
    have hF2 := hF.set1 (i - 1) (.int .u32 ((σ.gen i + 1) % 4294967296))
    have h4 := hF2.c4
    have hco := (hF2.on.cellAt (i - 1) (by omega)).trans (ons_at σ (i - 1) (by omega))
    have hfo := hF2.on.frozenAt (i - 1)
    have hF3 := hF2.set2 (i - 1) (.bool true)
    have HF3 := Lib.hid hF3
    have HX := Lib.hid hF3.box
    have HY := Lib.hid hF3.res
    clear hF hF2 hF3)
  all_goals (go_wp2_with (first | refine wpList_load_row rfl 56 (.tmp 1) rfl w.heap.size rfl 56 _ (0, 0) _ HX.out HU.out rfl HI.out ?_ | refine wpList_store_row rfl 56 (.tmp 2) (.tmp 59) rfl (w.heap.size + 1) #[.int .i64 (σ.cap : Int), .slice a0 s0.length c0, .int .i64 (fr : Int), .slice (some ⟨g1, 0, none⟩) σ.cap c1, .slice (some ⟨g2, 0, none⟩) σ.cap c2] rfl rfl 56 _ HY.out HI.out rfl (fields_one _ _ _ _ _ _ _ _ _ _ _) ?_))
  all_goals (
    have hF := HF3.out
    rw [← gens_take σ i t hi1, ← ons_take σ i t hi1] at hF
    obtain ⟨hR, hBl⟩ := fin_ref (st2 := s0) (fr2 := fr) (i := i) (t := t) HH.out hF HT.out HH.out.fr1 HH.out.fr2 hB (fun k hk => .inr (hfrom k hk)) #[.int .i64 (σ.cap : Int), .slice a0 s0.length c0, .int .i64 (fr : Int), .slice (some ⟨g1, 0, none⟩) σ.cap c1, .slice (some ⟨g2, 0, none⟩) σ.cap c2]
    refine bodyPost_ret (v := .tuple #[.agg #[.int .i64 (σ.cap : Int), .slice a0 s0.length c0, .int .i64 (fr : Int), .slice (some ⟨g1, 0, none⟩) σ.cap c1, .slice (some ⟨g2, 0, none⟩) σ.cap c2], .int .u32 (i : Int), .int .i64 0])
      (results_row_tmp2 (fn := Try.f59) (p := 2) (u := 3) (v := 4) rfl _ _ (w.heap.size + 1) 56 #[.int .i64 (σ.cap : Int), .slice a0 s0.length c0, .int .i64 (fr : Int), .slice (some ⟨g1, 0, none⟩) σ.cap c1, .slice (some ⟨g2, 0, none⟩) σ.cap c2] (0, 0) _ rfl (setRow_heap _ _ _ _ _ _ HY.out) HU.out rfl HI.out) rfl
      ⟨s0, fr, a0, _, _, c0, c1, c2, by unfold refV; rfl, hR, hBl⟩)
end
end Go.Proofs.Ytnmookemeibioaa
