/- The reference's Alloc keeps the plain state; its Release of a slot that is not allocated. -/
import Derived.Test.YtnmookemeibioaaRefSlots3
import Derived.Deep.RegionLaw
set_option linter.unusedVariables false
namespace Go.Proofs.Ytnmookemeibioaa
open Go.RowKit

theorem gens_take (σ : St) (i : Nat) (t : List Nat) (h1 : 1 ≤ i) : gens (σ.take i t) = (gens σ).set (i - 1) (.int .u32 ((σ.gen i + 1) % 4294967296)) := by
  apply List.ext_getElem
  · simp [gens, St.take]
  · intro j h2 h3
    rw [List.getElem_set]
    by_cases e : i - 1 = j
    · subst e
      simp [gens, St.take, Nat.sub_add_cancel h1]
    · rw [if_neg e]
      have : ¬ j + 1 = i := by omega
      simp [gens, St.take, this]
theorem ons_take (σ : St) (i : Nat) (t : List Nat) (h1 : 1 ≤ i) : ons (σ.take i t) = (ons σ).set (i - 1) (.bool true) := by
  apply List.ext_getElem
  · simp [ons, St.take]
  · intro j h2 h3
    rw [List.getElem_set]
    by_cases e : i - 1 = j
    · subst e
      simp [ons, St.take, Nat.sub_add_cancel h1]
    · rw [if_neg e]
      have : ¬ j + 1 = i := by omega
      simp [ons, St.take, this]
/-- in the middle of Alloc: the box at p, the result at p + 1 -/
structure Mid (p B : Nat) (w W : World) (σ : St) (st : List Nat) (c0 cS cF : Value) (ga oa : Option Addr) (gc oc : Nat) : Prop where
  size : p + 2 ≤ W.heap.size
  box : W.heap[p]? = some (.cells #[c0, cS, cF, .slice ga σ.cap gc, .slice oa σ.cap oc] 56 (0, 0))
  res : W.heap[p + 1]? = some (.cells #[Value.int .i64 0, .slice none 0 0, .int .i64 0, .slice none 0 0, .slice none 0 0] 56 (0, 0))
  below : Below p w W
  stack : W.ownsRow B 41 1 cS st.length (u32s st)
  stackp : ∀ k, cS.ownBlock = some k → k < p ∨ p + 2 ≤ k
  gen : W.ownsRow B 41 1 (.slice ga σ.cap gc) σ.cap (gens σ)
  on : W.ownsRow B 4 1 (.slice oa σ.cap oc) σ.cap (ons σ)
  genp : ∀ k, (Value.slice ga σ.cap gc).ownBlock = some k → k < p
  onp : ∀ k, (Value.slice oa σ.cap oc).ownBlock = some k → k < p
section
variable {p B : Nat} {w W W1 : World} {σ : St} {st : List Nat} {c0 cS cF : Value} {ga oa : Option Addr} {gc oc : Nat}
theorem Mid.grown (h : Mid p B w W σ st c0 cS cF ga oa gc oc) (hg : W.grownBy W1 none) : Mid p B w W1 σ st c0 cS cF ga oa gc oc := by
  have hs := h.size
  have hb : ∀ k, k < W.heap.size → W1.heap[k]? = W.heap[k]? := fun k hk => hg.block k hk (by simp)
  exact ⟨Nat.le_trans hs hg.size, (hb p (by omega)).trans h.box, (hb (p + 1) (by omega)).trans h.res, h.below.grown hg (by omega) (fun k h => by cases h), row_keep h.stack fun k hk => hb k (row_lt h.stack k hk).2, h.stackp,
    row_keep h.gen fun k hk => hb k (row_lt h.gen k hk).2, row_keep h.on fun k hk => hb k (row_lt h.on k hk).2, h.genp, h.onp⟩
theorem Mid.drew (h : Mid p B w W σ st c0 cS cF ga oa gc oc) : Mid p B w W.drew σ st c0 cS cF ga oa gc oc :=
  ⟨h.size, h.box, h.res, h.below.drew, h.stack, h.stackp, h.gen, h.on, h.genp, h.onp⟩
theorem Mid.c3 (h : Mid p B w W σ st c0 cS cF ga oa gc oc) : W.cell? ⟨p, 3, none⟩ = some (.slice ga σ.cap gc) ∧ W.frozen? ⟨p, 3, none⟩ = false := ⟨by rw [cell_of_row _ _ _ _ _ _ h.box]; rfl, frozen_of_row W p 3 _ _ h.box⟩
theorem Mid.c4 (h : Mid p B w W σ st c0 cS cF ga oa gc oc) : W.cell? ⟨p, 4, none⟩ = some (.slice oa σ.cap oc) ∧ W.frozen? ⟨p, 4, none⟩ = false := ⟨by rw [cell_of_row _ _ _ _ _ _ h.box]; rfl, frozen_of_row W p 4 _ _ h.box⟩
end
/-- both rows are copied: the blocks of the copies -/
structure Fin (p B Q : Nat) (w W : World) (n : Nat) (st : List Nat) (c0 cS cF : Value) (g1 g2 gc oc : Nat) (xs ys : List Value) : Prop where
  size : p + 2 ≤ W.heap.size
  box : W.heap[p]? = some (.cells #[c0, cS, cF, .slice (some ⟨g1, 0, none⟩) n gc, .slice (some ⟨g2, 0, none⟩) n oc] 56 (0, 0))
  res : W.heap[p + 1]? = some (.cells #[Value.int .i64 0, .slice none 0 0, .int .i64 0, .slice none 0 0, .slice none 0 0] 56 (0, 0))
  below : Below p w W
  stack : W.ownsRow B 41 1 cS st.length (u32s st)
  stackp : ∀ k, cS.ownBlock = some k → (k < p ∨ p + 2 ≤ k) ∧ k < Q
  hQ : p + 2 ≤ Q
  gen : W.ownsRow Q 41 1 (.slice (some ⟨g1, 0, none⟩) n gc) n xs
  on : W.ownsRow (p + 2) 4 1 (.slice (some ⟨g2, 0, none⟩) n oc) n ys
section
variable {p B Q n g1 g2 : Nat} {w W W1 : World} {σ : St} {st : List Nat} {c0 cS cF : Value} {ga oa : Option Addr} {gc oc k1 k2 : Nat} {xs ys : List Value}
theorem mid_fin (h : Mid p B w W σ st c0 cS cF ga oa gc oc) (hQ : p + 2 ≤ Q) (hap : ∀ k, cS.ownBlock = some k → k < Q) (h1 : W.ownsRow Q 41 1 (.slice (some ⟨g1, 0, none⟩) σ.cap k1) σ.cap xs)
    (h2 : W.ownsRow (p + 2) 4 1 (.slice (some ⟨g2, 0, none⟩) σ.cap k2) σ.cap ys) (hp : p ≤ w.heap.size) :
    Fin p B Q w ((W.setCell ⟨p, 3, none⟩ (.slice (some ⟨g1, 0, none⟩) σ.cap k1)).setCell ⟨p, 4, none⟩ (.slice (some ⟨g2, 0, none⟩) σ.cap k2)) σ.cap st c0 cS cF g1 g2 k1 k2 xs ys := by
  have hg1 := row_from h1 g1 rfl
  have hg2 := row_from h2 g2 rfl
  have hS : cS.ownBlock ≠ some p := fun e => by have := h.stackp p e; omega
  have hx1 : (W.setCell ⟨p, 3, none⟩ (.slice (some ⟨g1, 0, none⟩) σ.cap k1)).heap[p]? = some (.cells #[c0, cS, cF, .slice (some ⟨g1, 0, none⟩) σ.cap k1, .slice oa σ.cap oc] 56 (0, 0)) := by
    rw [heap_setCell_same _ _ _ _ _ _ h.box]; rfl
  refine ⟨by rw [size_set, size_set]; exact h.size, by rw [heap_setCell_same _ _ _ _ _ _ hx1]; rfl, ?_, (h.below.setCell (Nat.le_refl p) _).setCell (Nat.le_refl p) _, row_cellset (row_cellset h.stack hS) hS, fun k hk => ⟨h.stackp k hk, hap k hk⟩, hQ,
    row_cellset (row_cellset h1 fun e => ?_) fun e => ?_, row_cellset (row_cellset h2 fun e => ?_) fun e => ?_⟩
  · rw [heap_setCell_other _ _ _ _ (by show p + 1 ≠ p; omega), heap_setCell_other _ _ _ _ (by show p + 1 ≠ p; omega)]; exact h.res
  all_goals first | (have h5 := row_from h1 p e; omega) | (have h5 := row_from h2 p e; omega)
theorem Fin.c3 (h : Fin p B Q w W n st c0 cS cF g1 g2 gc oc xs ys) : W.cell? ⟨p, 3, none⟩ = some (.slice (some ⟨g1, 0, none⟩) n gc) := by rw [cell_of_row _ _ _ _ _ _ h.box]; rfl
theorem Fin.c4 (h : Fin p B Q w W n st c0 cS cF g1 g2 gc oc xs ys) : W.cell? ⟨p, 4, none⟩ = some (.slice (some ⟨g2, 0, none⟩) n oc) := by rw [cell_of_row _ _ _ _ _ _ h.box]; rfl
theorem Fin.set1 (h : Fin p B Q w W n st c0 cS cF g1 g2 gc oc xs ys) (j : Nat) (x : Value) : Fin p B Q w (W.setCell ⟨g1, j, none⟩ x) n st c0 cS cF g1 g2 gc oc (xs.set j x) ys := by
  have hg := row_from h.gen g1 rfl
  have hQ := h.hQ
  refine ⟨by rw [size_set]; exact h.size, ?_, ?_, h.below.setCell (by show p ≤ g1; omega) _, row_cellset h.stack fun e => ?_, h.stackp, hQ, (h.gen.stored j x).1, row_cellset h.on fun e => row_ne (by decide) h.on h.gen g1 e rfl⟩
  · rw [heap_setCell_other _ _ _ _ (by show p ≠ g1; omega)]; exact h.box
  · rw [heap_setCell_other _ _ _ _ (by show p + 1 ≠ g1; omega)]; exact h.res
  · have := (h.stackp g1 e).2; omega
theorem Fin.set2 (h : Fin p B Q w W n st c0 cS cF g1 g2 gc oc xs ys) (j : Nat) (x : Value) : Fin p B Q w (W.setCell ⟨g2, j, none⟩ x) n st c0 cS cF g1 g2 gc oc xs (ys.set j x) := by
  have hg := row_from h.on g2 rfl
  refine ⟨by rw [size_set]; exact h.size, ?_, ?_, h.below.setCell (by show p ≤ g2; omega) _, row_cellset h.stack fun e => row_ne (by decide) h.stack h.on g2 e rfl, h.stackp, h.hQ, row_cellset h.gen fun e => row_ne (by decide) h.gen h.on g2 e rfl, (h.on.stored j x).1⟩
  · rw [heap_setCell_other _ _ _ _ (by show p ≠ g2; omega)]; exact h.box
  · rw [heap_setCell_other _ _ _ _ (by show p + 1 ≠ g2; omega)]; exact h.res
end
theorem results_row_tmp2 {P : Program} {fn : Func} {p u v : Tmp} {ty : TypeId} (h : fn.results = #[.cell p ty, .tmp u, .tmp v]) (tmps : Array Value) (w : World) (g : Nat) (t : TypeId) (cs : Array Value) (fr : Nat × Nat) (d : TypeDesc)
    (hp : tmps.getD p undef = .pointer (some ⟨g, 0, none⟩)) (hg : w.heap[g]? = some (.cells cs t fr))
    (hu : P.underlying ty = some d) (hd : (match d with | .struct _ | .array _ _ => true | _ => false) = true) (hi : (P.info? ty).map (·.size) = some cs.size) :
    (results fn tmps).run P w = .ok (.tuple #[.agg cs, tmps.getD u undef, tmps.getD v undef]) w := by
  have e : (results fn tmps).run P w = ((asAddr (tmps.getD p undef)).run P w).andThen fun a w₁ => ((loadVar ty a).run P w₁).andThen fun x w₂ => .ok (.tuple #[x, tmps.getD u undef, tmps.getD v undef]) w₂ := by
    simp only [results, h]
    simp [Sem.run_bind, Result.andThen]
  rw [e]
  simp [hp, asAddr, Result.andThen, run_loadVar_row w g t ty cs fr d hg hu hd hi]
theorem row_pre {w : World} {B n m c : Nat} {e : TypeId} {a : Option Addr} {xs : List Value} (h : w.ownsRow B e 1 (.slice a n c) n xs) (hm : m ≤ n) (h0 : 0 < n) : w.ownsRow B e 1 (.slice a m c) m (xs.take m) := by
  obtain ⟨g, rfl⟩ := row_head h h0
  have hl := h.1
  rcases h.2 with ⟨_, hn⟩ | ⟨g2, cap, cur, hv, hB, hc, hn, hcm, hs, ht⟩
  · omega
  · simp only [Value.slice.injEq, Option.some.injEq, Addr.mk.injEq] at hv
    obtain ⟨⟨rfl, _⟩, _, rfl⟩ := hv
    refine ⟨by simp; omega, .inr ⟨g, c, cur, rfl, hB, hc, by omega, hcm, hs, ?_⟩⟩
    rw [← ht, List.take_take]
    congr 1
    omega
def RefTook (B : Nat) (G : Nat → Prop) (w : World) (σ : St) (i : Nat) (t : List Nat) (e : Ending) (w' : World) : Prop :=
  ∃ st fr sa ga oa sc gc oc, e = .returned (.tuple #[.agg (refV (σ.take i t) st fr sa ga oa sc gc oc), .int .u32 (i : Int), .int .i64 0]) ∧ RefAt B (fun k => G k ∨ w.heap.size ≤ k) w' (σ.take i t) st fr sa ga oa sc gc oc ∧ Below w.heap.size w w'
section
variable {B : Nat} {G : Nat → Prop} {w : World} {σ : St} {st : List Nat} {fr : Nat} {sa ga oa : Option Addr} {sc gc oc : Nat}
theorem fin_ref {Q g1 g2 k1 k2 fr2 sc2 i : Nat} {W : World} {c0 cF : Value} {st2 t : List Nat} {sa2 : Option Addr} (h : RefAt B G w σ st fr sa ga oa sc gc oc)
    (hF : Fin w.heap.size B Q w W σ.cap st2 c0 (.slice sa2 st2.length sc2) cF g1 g2 k1 k2 (gens (σ.take i t)) (ons (σ.take i t))) (hfree : t = st2.reverse ++ List.range' fr2 (σ.cap + 1 - fr2)) (h1 : 1 ≤ fr2) (h2 : fr2 ≤ σ.cap + 1)
    (hB : B ≤ w.heap.size) (hin : ∀ k, (Value.slice sa2 st2.length sc2).ownBlock = some k → G k ∨ w.heap.size ≤ k) (cs : Array Value) :
    RefAt B (fun k => G k ∨ w.heap.size ≤ k) (W.setRow (w.heap.size + 1) cs) (σ.take i t) st2 fr2 sa2 (some ⟨g1, 0, none⟩) (some ⟨g2, 0, none⟩) sc2 k1 k2 ∧ Below w.heap.size w (W.setRow (w.heap.size + 1) cs) := by
  have hQ := hF.hQ
  have hrow : ∀ k, k ≠ w.heap.size + 1 → (W.setRow (w.heap.size + 1) cs).heap[k]? = W.heap[k]? := fun k hk => setRow_other W _ k cs hk
  refine ⟨⟨hfree, h1, h2, row_keep hF.stack fun k hk => hrow k (by have := (hF.stackp k hk).1; omega), ?_, ?_, hin, fun k hk => ?_, fun k hk => ?_⟩, below_setRow hF.below (by omega) _⟩
  · exact row_mono (row_keep hF.gen fun k hk => hrow k (by have := row_from hF.gen k hk; omega)) (by omega)
  · exact row_mono (row_keep hF.on fun k hk => hrow k (by have := row_from hF.on k hk; omega)) (by omega)
  · have := row_from hF.gen k hk; exact .inr (by omega)
  · have := row_from hF.on k hk; exact .inr (by omega)
set_option maxHeartbeats 4000000 in
set_option maxRecDepth 100000 in
theorem ref_take_nil (h : RefAt B G w σ [] fr sa ga oa sc gc oc) (hok : σ.Ok) (i : Nat) (t : List Nat) (hf : σ.free = i :: t) (hB : B ≤ w.heap.size) :
    Calls Try.prog 59 #[.agg (refV σ [] fr sa ga oa sc gc oc)] w (RefTook B G w σ i t) := by
  obtain ⟨i0, ji, jz0, jz1, jz2⟩ := info_parts u32sInfo
  obtain ⟨i1, ki, kz0, kz1, kz2⟩ := info_parts boolsInfo
  have HU := Lib.hid Try.underlying56
  have hin : (Try.prog.info? 56).map (·.size) = some 5 := by kernel_rfl
  have HI := Lib.hid hin
  have him := (hok.free i).1 (by rw [hf]; simp)
  obtain ⟨hi1, hi2, hi0⟩ := him
  have hcap := hok.cap2
  have hHF : Hid (i :: t = ([] : List Nat).reverse ++ List.range' fr (σ.cap + 1 - fr)) := by rw [← hf]; exact h.free
  have HI0 := Lib.hid hi0
  clear hf hi0 hin
  have hfr : fr ≤ σ.cap ∧ i = fr ∧ t = List.range' (fr + 1) (σ.cap - fr) := by
    have h1 := hHF.out
    rw [List.reverse_nil, List.nil_append] at h1
    rcases Nat.lt_or_ge σ.cap fr with h2 | h2
    · rw [show σ.cap + 1 - fr = 0 by omega] at h1; simp at h1
    · rw [show σ.cap + 1 - fr = (σ.cap - fr) + 1 by omega, List.range'_succ] at h1
      simp only [List.cons.injEq] at h1
      exact ⟨h2, h1.1, h1.2⟩
  obtain ⟨hfr1, rfl, ht⟩ := hfr
  have hki : (i : Int) ≤ (σ.cap : Int) := by omega
  unfold refV
  go_enter Try.func59, Try.ntmps59
  go_wp2
  have hM : Mid w.heap.size B w ((w.alloc (Obj.cells #[Value.int .i64 (σ.cap : Int), .slice sa 0 sc, .int .i64 ((i : Int) + 1), .slice ga σ.cap gc, .slice oa σ.cap oc] 56)).alloc
      (Obj.cells #[Value.int .i64 0, .slice none 0 0, .int .i64 0, .slice none 0 0, .slice none 0 0] 56)) σ [] (.int .i64 (σ.cap : Int)) (.slice sa 0 sc) (.int .i64 ((i : Int) + 1)) ga oa gc oc := by
    have hb : ∀ A Z, Below w.heap.size w ((w.alloc A).alloc Z) := fun A Z => ((Below.refl _ _).alloc (Nat.le_refl _) _).alloc (by simp) _
    exact ⟨by simp, heap_alloc2_old _ _ _, heap_alloc2_new _ _ _, hb _ _, row_below h.stack (hb _ _), fun k hk => .inl (row_lt h.stack k hk).2, row_below h.gen (hb _ _), row_below h.on (hb _ _), fun k hk => (row_lt h.gen k hk).2, fun k hk => (row_lt h.on k hk).2⟩
  generalize (w.alloc (Obj.cells #[Value.int .i64 (σ.cap : Int), .slice sa 0 sc, .int .i64 ((i : Int) + 1), .slice ga σ.cap gc, .slice oa σ.cap oc] 56)).alloc
      (Obj.cells #[Value.int .i64 0, .slice none 0 0, .int .i64 0, .slice none 0 0, .slice none 0 0] 56) = W at hM ⊢
  have hMd := hM.drew
  have h3 := hMd.c3.1
  have h4 := hMd.c4.1
  have hgen := hMd.gen
  have hon := hMd.on
  have hsz := hMd.size
  have HM := Lib.hid hMd
  have HH := Lib.hid h
  have HOK := Lib.hid hok
  clear hM hMd h hok
  go_region_law (first
    | (refine step_append_row rfl (.const (.slice none 0 0)) (.tmp 39) 33 rfl (w.heap.size + 2) 41 i0 (.int .u32 0) 4 Try.underlying33 ji jz0 jz1 jz2 rfl (.slice none 0 0) 0 [] rfl (World.ownsRow_nil _ _ _ _) B ga σ.cap gc (gens σ) rfl hgen (gens_one _) (by unfold maxLen; omega) (by omega) hsz ?_; intro v1 W1 ho1 hg1; rw [Nat.zero_add, List.nil_append] at ho1; have hM1 := HM.out.grown hg1; have h3a := hM1.c3.1; have h4a := hM1.c4.1; have hona := hM1.on; have hsza := hM1.size; have HM1 := Lib.hid hM1; clear hM1)
    | (refine step_append_row rfl (.const (.slice none 0 0)) (.tmp 42) 54 rfl (w.heap.size + 2) 4 i1 (.bool false) 1 Try.underlying54 ki kz0 kz1 kz2 rfl (.slice none 0 0) 0 [] rfl (World.ownsRow_nil _ _ _ _) B oa σ.cap oc (ons σ) rfl hona (ons_one _) (by unfold maxLen; omega) (by omega) hsza ?_; intro v2 W2 ho2 hg2; rw [Nat.zero_add, List.nil_append] at ho2; have hM2 := HM1.out.grown hg2; obtain ⟨a1, c1, rfl⟩ := row_val ho1; obtain ⟨a2, c2, rfl⟩ := row_val ho2; have ho1b := row_keep ho1 (fun k hk => hg2.block k (row_lt ho1 k hk).2 (by simp [Value.ownBlock])); have h3b := hM2.c3; have h4b := hM2.c4; obtain ⟨h3c, h3f⟩ := h3b; obtain ⟨h4c, h4f⟩ := h4b; have HM2 := Lib.hid hM2; clear hM2))
  all_goals (rename_i K hk; refine hk _ _ ?_; clear hk)
  all_goals (
    obtain ⟨g1, rfl⟩ := row_head ho1b (by omega)
    obtain ⟨g2, rfl⟩ := row_head ho2 (by omega)
    have hF := mid_fin HM2.out (Nat.le_refl _) (fun k hk => by have := (row_lt HH.out.stack k hk).2; omega) ho1b ho2 (Nat.le_refl _)
    clear ho1 ho1b ho2 h3 h4 h3a h4a hg1 hg2 h3c h3f h4c h4f hgen hon hona hsz hsza HM HM1 HM2
    generalize (W2.setCell ⟨w.heap.size, 3, none⟩ (.slice (some ⟨g1, 0, none⟩) σ.cap c1)).setCell ⟨w.heap.size, 4, none⟩ (.slice (some ⟨g2, 0, none⟩) σ.cap c2) = W3 at hF ⊢
    have hi3 : ((i : Int) - 1).toNat = i - 1 := by omega
    have hi4 : (1 : Int) ≤ (i : Int) := by omega
    have h3 := hF.c3
    have hcg := (hF.gen.cellAt (i - 1) (by omega)).trans (gens_at σ (i - 1) (by omega))
    have hfg := hF.gen.frozenAt (i - 1)
    rw [Nat.sub_add_cancel hi1] at hcg
    have hF2 := hF.set1 (i - 1) (.int .u32 ((σ.gen i + 1) % 4294967296))
    have h4 := hF2.c4
    have hco := (hF2.on.cellAt (i - 1) (by omega)).trans (ons_at σ (i - 1) (by omega))
    have hfo := hF2.on.frozenAt (i - 1)
    have hF3 := hF2.set2 (i - 1) (.bool true)
    have HF3 := Lib.hid hF3
    have HX := Lib.hid hF3.box
    have HY := Lib.hid hF3.res
    clear hF hF2 hF3)
  all_goals (go_wp2_with (first | refine wpList_load_row rfl 56 (.tmp 1) rfl w.heap.size rfl 56 _ (0, 0) _ HX.out HU.out rfl HI.out ?_ | refine wpList_store_row rfl 56 (.tmp 2) (.tmp 59) rfl (w.heap.size + 1) #[.int .i64 (σ.cap : Int), .slice sa 0 sc, .int .i64 ((i : Int) + 1), .slice (some ⟨g1, 0, none⟩) σ.cap c1, .slice (some ⟨g2, 0, none⟩) σ.cap c2] rfl rfl 56 _ HY.out HI.out rfl (fields_one _ _ _ _ _ _ _ _ _ _ _) ?_))
  all_goals (
    have hF := HF3.out
    rw [← gens_take σ i t hi1, ← ons_take σ i t hi1] at hF
    obtain ⟨hR, hBl⟩ := fin_ref (st2 := []) (fr2 := i + 1) (i := i) (t := t) HH.out hF (by rw [ht, show σ.cap + 1 - (i + 1) = σ.cap - i by omega]; rfl) (by omega) (by omega) hB (fun k hk => .inl (HH.out.inS k hk)) #[.int .i64 (σ.cap : Int), .slice sa 0 sc, .int .i64 ((i : Int) + 1), .slice (some ⟨g1, 0, none⟩) σ.cap c1, .slice (some ⟨g2, 0, none⟩) σ.cap c2]
    refine bodyPost_ret (v := .tuple #[.agg #[.int .i64 (σ.cap : Int), .slice sa 0 sc, .int .i64 ((i : Int) + 1), .slice (some ⟨g1, 0, none⟩) σ.cap c1, .slice (some ⟨g2, 0, none⟩) σ.cap c2], .int .u32 (i : Int), .int .i64 0])
      (results_row_tmp2 (fn := Try.f59) (p := 2) (u := 3) (v := 4) rfl _ _ (w.heap.size + 1) 56 #[.int .i64 (σ.cap : Int), .slice sa 0 sc, .int .i64 ((i : Int) + 1), .slice (some ⟨g1, 0, none⟩) σ.cap c1, .slice (some ⟨g2, 0, none⟩) σ.cap c2] (0, 0) _ rfl (setRow_heap _ _ _ _ _ _ HY.out) HU.out rfl HI.out) rfl
      ⟨[], i + 1, sa, _, _, sc, c1, c2, by unfold refV; rfl, hR, hBl⟩)
end
end Go.Proofs.Ytnmookemeibioaa
