/- The reference's Release keeps the plain state. -/
import Derived.Test.YtnmookemeibioaaRefSlots2
import Derived.Laws.ResultCell
import Derived.Laws.CopyOwn
set_option linter.unusedVariables false
namespace Go.Proofs.Ytnmookemeibioaa
open Go.RowKit

theorem ons_put (σ : St) (i : Nat) (h1 : 1 ≤ i) : ons (σ.put i) = (ons σ).set (i - 1) (.bool false) := by
  apply List.ext_getElem
  · simp [ons, St.put]
  · intro j h2 h3
    rw [List.getElem_set]
    by_cases e : i - 1 = j
    · subst e
      simp [ons, St.put, Nat.sub_add_cancel h1]
    · rw [if_neg e]
      have : ¬ j + 1 = i := by omega
      simp [ons, St.put, this]
theorem row_ne {w : World} {B B' n m s s' : Nat} {e e' : TypeId} {v x : Value} {xs ys : List Value} (hne : e ≠ e') (h : w.ownsRow B e s v n xs) (h' : w.ownsRow B' e' s' x m ys) : ∀ k, v.ownBlock = some k → x.ownBlock ≠ some k := by
  intro k h1 h2
  rcases h.2 with ⟨rfl, _⟩ | ⟨g, cap, cur, rfl, _, hc, _⟩
  · simp [Value.ownBlock] at h1
  · rcases h'.2 with ⟨rfl, _⟩ | ⟨g2, cap2, cur2, rfl, _, hc2, _⟩
    · simp [Value.ownBlock] at h2
    · simp only [Value.ownBlock, Option.some.injEq] at h1 h2
      subst h1 h2
      rw [hc] at hc2
      simp at hc2
      exact hne hc2.2
theorem row_cellset {w : World} {B n s : Nat} {e : TypeId} {v x : Value} {xs : List Value} {p : Addr} (h : w.ownsRow B e s v n xs) (hp : v.ownBlock ≠ some p.block) : (w.setCell p x).ownsRow B e s v n xs :=
  row_keep h fun k hk => heap_setCell_other _ _ _ _ fun e2 => hp (by rw [hk, e2])
theorem u32s_one (l : List Nat) : ∀ u ∈ u32s l, u.oneCell' = true := by
  intro u hu
  unfold u32s at hu
  obtain ⟨i, _, rfl⟩ := List.mem_map.1 hu
  rfl
theorem gens_one (σ : St) : ∀ u ∈ gens σ, u.oneCell' = true := by
  intro u hu
  unfold gens at hu
  obtain ⟨i, _, rfl⟩ := List.mem_map.1 hu
  rfl
theorem ons_one (σ : St) : ∀ u ∈ ons σ, u.oneCell' = true := by
  intro u hu
  unfold ons at hu
  obtain ⟨i, _, rfl⟩ := List.mem_map.1 hu
  rfl
theorem put_mid {p n : Nat} {w2 w3 w5 : World} {v1 : Value} {ob : Obj} {xs : List Value} {c0 c1 c2 c3 c4 : Value} (hs2 : p + 2 ≤ w2.heap.size) (hx : w2.heap[p]? = some (.cells #[c0, c1, c2, c3, c4] 56 (0, 0)))
    (hg1 : w2.grownBy w3 none) (ho2 : (w3.alloc ob).ownsRow (p + 2) 41 1 v1 n xs) (hg5 : (w3.alloc ob).grownBy w5 v1.ownBlock) :
    Below (p + 2) w2 w5 ∧ w5.heap[p]? = some (.cells #[c0, c1, c2, c3, c4] 56 (0, 0)) ∧ w5.cell? ⟨p, 1, none⟩ = some c1 ∧ w5.frozen? ⟨p, 1, none⟩ = false := by
  have h3 : w2.heap.size ≤ w3.heap.size := hg1.size
  have hb : Below (p + 2) w2 w5 := (((Below.refl _ _).grown hg1 hs2 (fun k h => by cases h)).alloc (by omega) ob).grown hg5 (by simp; omega) (row_from ho2)
  have hx5 := (hb.block p (by omega)).trans hx
  exact ⟨hb, hx5, by rw [cell_of_row _ _ _ _ _ _ hx5]; rfl, frozen_of_row w5 p 1 _ _ hx5⟩
theorem results_row_tmp {P : Program} {fn : Func} {p u : Tmp} {ty : TypeId} (h : fn.results = #[.cell p ty, .tmp u]) (tmps : Array Value) (w : World) (g : Nat) (t : TypeId) (cs : Array Value) (fr : Nat × Nat) (d : TypeDesc)
    (hp : tmps.getD p undef = .pointer (some ⟨g, 0, none⟩)) (hg : w.heap[g]? = some (.cells cs t fr))
    (hu : P.underlying ty = some d) (hd : (match d with | .struct _ | .array _ _ => true | _ => false) = true) (hi : (P.info? ty).map (·.size) = some cs.size) :
    (results fn tmps).run P w = .ok (.tuple #[.agg cs, tmps.getD u undef]) w := by
  rw [results_cell_tmp h]
  simp [hp, asAddr, Result.andThen, run_loadVar_row w g t ty cs fr d hg hu hd hi]
theorem fields_one (c f : Int) (a1 a2 a3 : Option Addr) (n1 n2 n3 c1 c2 c3 : Nat) : (#[Value.int .i64 c, .slice a1 n1 c1, .int .i64 f, .slice a2 n2 c2, .slice a3 n3 c3] : Array Value).all (·.oneCell') = true := by
  simp [Value.oneCell']
theorem size_set (w : World) (a : Addr) (v : Value) : (w.setCell a v).heap.size = w.heap.size := by simp [World.setCell]
theorem put2 {p n m B : Nat} {w2 w5 : World} {v2 vo : Value} {xs ys : List Value} {c0 c1 c2 c3 c4 : Value} {y : Option Obj} (hs2 : p + 2 ≤ w2.heap.size) (hy : w2.heap[p + 1]? = y) (hb : Below (p + 2) w2 w5)
    (hx : w5.heap[p]? = some (.cells #[c0, c1, c2, c3, c4] 56 (0, 0))) (ho5 : w5.ownsRow (p + 2) 41 1 v2 n xs) (hon : w2.ownsRow B 4 1 vo m ys) (hlt : ∀ k, vo.ownBlock = some k → k < p) :
    (w5.setCell ⟨p, 1, none⟩ v2).ownsRow (p + 2) 41 1 v2 n xs ∧ (w5.setCell ⟨p, 1, none⟩ v2).ownsRow B 4 1 vo m ys ∧ p + 2 ≤ (w5.setCell ⟨p, 1, none⟩ v2).heap.size ∧
      (w5.setCell ⟨p, 1, none⟩ v2).heap[p]? = some (.cells #[c0, v2, c2, c3, c4] 56 (0, 0)) ∧ (w5.setCell ⟨p, 1, none⟩ v2).heap[p + 1]? = y ∧ Below p w2 (w5.setCell ⟨p, 1, none⟩ v2) ∧
      w5.cell? ⟨p, 4, none⟩ = some c4 := by
  have h5 : w2.heap.size ≤ w5.heap.size := hb.size
  refine ⟨row_cellset ho5 fun e => ?_, row_cellset (row_keep hon fun k hk => hb.block k (by have := hlt k hk; omega)) fun e => ?_, by (rw [size_set]; omega), ?_, ?_, (hb.mono (show p ≤ p + 2 by omega)).setCell (Nat.le_refl p) _, ?_⟩
  · have := row_from ho5 p e; omega
  · have := hlt p e; omega
  · rw [heap_setCell_same _ _ _ _ _ _ hx]; rfl
  · rw [heap_setCell_other _ _ _ _ (by show p + 1 ≠ p; omega), hb.block _ (by omega)]; exact hy
  · rw [cell_of_row _ _ _ _ _ _ hx]; rfl
theorem put3 {p n m : Nat} {w2 w6 w7 : World} {v2 v3 : Value} {xs ys : List Value} {c0 c2 c3 c4 : Value} {y : Option Obj} (hs6 : p + 2 ≤ w6.heap.size) (hx : w6.heap[p]? = some (.cells #[c0, v2, c2, c3, c4] 56 (0, 0)))
    (hy : w6.heap[p + 1]? = y) (hb : Below p w2 w6) (h2 : w6.ownsRow (p + 2) 41 1 v2 n xs) (hg : w6.grownBy w7 none) (h3 : w7.ownsRow (p + 2) 4 1 v3 m ys) (hps : p ≤ w2.heap.size) :
    w7.cell? ⟨p, 4, none⟩ = some c4 ∧ w7.frozen? ⟨p, 4, none⟩ = false ∧ (w7.setCell ⟨p, 4, none⟩ v3).ownsRow (p + 2) 41 1 v2 n xs ∧ (w7.setCell ⟨p, 4, none⟩ v3).ownsRow (p + 2) 4 1 v3 m ys ∧
      (w7.setCell ⟨p, 4, none⟩ v3).heap[p]? = some (.cells #[c0, v2, c2, c3, v3] 56 (0, 0)) ∧ (w7.setCell ⟨p, 4, none⟩ v3).heap[p + 1]? = y ∧ Below p w2 (w7.setCell ⟨p, 4, none⟩ v3) := by
  have hx7 := (hg.block p (by omega) (by simp)).trans hx
  refine ⟨by rw [cell_of_row _ _ _ _ _ _ hx7]; rfl, frozen_of_row w7 p 4 _ _ hx7, row_cellset (row_keep h2 fun k hk => hg.block k (row_lt h2 k hk).2 (by simp)) fun e => ?_, row_cellset h3 fun e => ?_, ?_, ?_, (hb.grown hg (by omega) (fun k h => by cases h)).setCell (Nat.le_refl _) _⟩
  · have := row_from h2 p e; omega
  · have := row_from h3 p e; omega
  · rw [heap_setCell_same _ _ _ _ _ _ hx7]; rfl
  · rw [heap_setCell_other _ _ _ _ (by show p + 1 ≠ p; omega), hg.block _ (by omega) (by simp)]; exact hy
theorem put4 {p n m j g c : Nat} {w2 w8 : World} {v2 x : Value} {xs ys : List Value} {c0 c2 c3 : Value} {y : Option Obj} (hx : w8.heap[p]? = some (.cells #[c0, v2, c2, c3, .slice (some ⟨g, 0, none⟩) m c] 56 (0, 0)))
    (hy : w8.heap[p + 1]? = y) (hb : Below p w2 w8) (h2 : w8.ownsRow (p + 2) 41 1 v2 n xs) (h3 : w8.ownsRow (p + 2) 4 1 (.slice (some ⟨g, 0, none⟩) m c) m ys) :
    (w8.setCell ⟨g, j, none⟩ x).heap[p]? = some (.cells #[c0, v2, c2, c3, .slice (some ⟨g, 0, none⟩) m c] 56 (0, 0)) ∧ (w8.setCell ⟨g, j, none⟩ x).heap[p + 1]? = y ∧
      Below p w2 (w8.setCell ⟨g, j, none⟩ x) ∧ (w8.setCell ⟨g, j, none⟩ x).ownsRow (p + 2) 41 1 v2 n xs ∧ (w8.setCell ⟨g, j, none⟩ x).ownsRow (p + 2) 4 1 (.slice (some ⟨g, 0, none⟩) m c) m (ys.set j x) := by
  have hg := row_from h3 g rfl
  refine ⟨?_, ?_, hb.setCell (by show p ≤ g; omega) _, row_cellset h2 fun e => row_ne (by decide) h2 h3 g e rfl, (h3.stored j x).1⟩
  · rw [heap_setCell_other _ _ _ _ (by show p ≠ g; omega)]; exact hx
  · rw [heap_setCell_other _ _ _ _ (by show p + 1 ≠ g; omega)]; exact hy
/-- what Release leaves -/
def RefPut (B : Nat) (G : Nat → Prop) (w : World) (σ : St) (st : List Nat) (fr : Nat) (ga : Option Addr) (gc : Nat) (i : Nat) (e : Ending) (w' : World) : Prop :=
  ∃ sa oa sc oc, e = .returned (.tuple #[.agg (refV (σ.put i) (st ++ [i]) fr sa ga oa sc gc oc), .int .i64 0]) ∧ RefAt B (fun k => G k ∨ w.heap.size ≤ k) w' (σ.put i) (st ++ [i]) fr sa ga oa sc gc oc ∧ Below w.heap.size w w'
section
variable {B : Nat} {G : Nat → Prop} {w : World} {σ : St} {st : List Nat} {fr : Nat} {sa ga oa : Option Addr} {sc gc oc : Nat}
set_option maxHeartbeats 2000000 in
set_option maxRecDepth 100000 in
theorem ref_put (h : RefAt B G w σ st fr sa ga oa sc gc oc) (hok : σ.Ok) (i : Nat) (hi : i < 4294967296) (hon : σ.on i = true) (hB : B ≤ w.heap.size) :
    Calls Try.prog 64 #[.agg (refV σ st fr sa ga oa sc gc oc), .int .u32 (i : Int)] w (RefPut B G w σ st fr ga gc i) := by
  obtain ⟨i0, ji, jz0, jz1, jz2⟩ := info_parts u32sInfo
  obtain ⟨i1, ki, kz0, kz1, kz2⟩ := info_parts boolsInfo
  have HU := Lib.hid Try.underlying56
  have hin : (Try.prog.info? 56).map (·.size) = some 5 := by kernel_rfl
  have HI := Lib.hid hin
  obtain ⟨hi1, hi2⟩ := hok.on i hon
  have hcap := hok.cap2
  have hst : st.length ≤ 65536 := by have h1 := hok.len; rw [h.free] at h1; simp at h1; omega
  go_enter Try.func64, Try.ntmps64
  clear hin
  unfold refV
  go_wp2_with fail
  have hal : Below w.heap.size w ((w.alloc (Obj.cells (refV σ st fr sa ga oa sc gc oc) 56)).alloc (Obj.cells #[Value.int .i64 0, .slice none 0 0, .int .i64 0, .slice none 0 0, .slice none 0 0] 56)) :=
    ((Below.refl _ _).alloc (Nat.le_refl _) _).alloc (by simp) _
  have hx := heap_alloc2_old w (Obj.cells (refV σ st fr sa ga oa sc gc oc) 56) (Obj.cells #[Value.int .i64 0, .slice none 0 0, .int .i64 0, .slice none 0 0, .slice none 0 0] 56)
  have hy := heap_alloc2_new w (Obj.cells (refV σ st fr sa ga oa sc gc oc) 56) (Obj.cells #[Value.int .i64 0, .slice none 0 0, .int .i64 0, .slice none 0 0, .slice none 0 0] 56)
  have hz : ((w.alloc (Obj.cells (refV σ st fr sa ga oa sc gc oc) 56)).alloc (Obj.cells #[Value.int .i64 0, .slice none 0 0, .int .i64 0, .slice none 0 0, .slice none 0 0] 56)).heap.size = w.heap.size + 2 := by simp
  change Calls Try.prog _ _ ((w.alloc (Obj.cells (refV σ st fr sa ga oa sc gc oc) 56)).alloc (Obj.cells #[Value.int .i64 0, .slice none 0 0, .int .i64 0, .slice none 0 0, .slice none 0 0] 56)) _
  generalize (w.alloc (Obj.cells (refV σ st fr sa ga oa sc gc oc) 56)).alloc (Obj.cells #[Value.int .i64 0, .slice none 0 0, .int .i64 0, .slice none 0 0, .slice none 0 0] 56) = w1 at hal hx hy hz ⊢
  have HZ := Lib.hid hz
  refine (ref_on (h.below hal) hok i hi).mono ?_
  rintro e w2 ⟨rfl, hb2⟩
  rw [hon]
  have hx2 := (hb2.block _ (by rw [hz]; omega)).trans hx
  have hy2 := (hb2.block _ (by rw [hz]; omega)).trans hy
  have hbl2 : Below w.heap.size w w2 := hal.trans (hb2.mono hal.size)
  have hs2 : w.heap.size + 2 ≤ w2.heap.size := by rw [← hz]; exact hb2.size
  have hst2 := row_below h.stack hbl2
  have hon2 := row_below h.on hbl2
  have HX2 := Lib.hid hx2
  have HY2 := Lib.hid hy2
  have HGEN := Lib.hid (row_below h.gen hbl2)
  have HH := Lib.hid h
  have HOK := Lib.hid hok
  have HON := Lib.hid hon
  have hlt : ∀ k, (Value.slice oa σ.cap oc).ownBlock = some k → k < w.heap.size := fun k hk => (row_lt h.on k hk).2
  have hi3 : ((i : Int) - 1).toNat = i - 1 := by omega
  have hi4 : (1 : Int) ≤ (i : Int) := by omega
  have hi5 : (i : Int) ≤ (σ.cap : Int) := by omega
  have hc1 : w2.cell? ⟨w.heap.size, 1, none⟩ = some (.slice sa st.length sc) := by rw [cell_of_row _ _ _ _ _ _ hx2]; rfl
  clear hal hx hy hz hb2 hx2 hy2 h hok hon
  go_wp2_with (first | (at_builtin; refine wpList_append_row rfl (.const (.slice none 0 0)) (.tmp 12) 33 rfl (w.heap.size + 2) 41 i0 (.int .u32 0) 4 Try.underlying33 ji jz0 jz1 jz2 rfl (.slice none 0 0) 0 [] rfl (World.ownsRow_nil _ _ _ _) B sa st.length sc (u32s st) rfl hst2 (u32s_one _) (by unfold maxLen; omega) (by omega) hs2 ?_; intro v1 w3 ho1 hg1; rw [Nat.zero_add, List.nil_append] at ho1; have hal3 := (Below.refl w3.heap.size w3).alloc (Nat.le_refl _) (Obj.cells #[Value.int .u32 (i : Int)] 41); have ho2 := row_below ho1 hal3; have hs3 : w.heap.size + 2 ≤ (w3.alloc (Obj.cells #[Value.int .u32 (i : Int)] 41)).heap.size := by (have := hg1.size; simp; omega)) | (at_builtin; refine wpList_append_own _ rfl (.tmp 13) (.tmp 15) 33 rfl (w.heap.size + 2) 41 i0 (.int .u32 0) 1 4 Try.underlying33 ji jz0 jz1 jz2 rfl (by decide) _ st.length (u32s st) rfl ho2 ⟨w3.heap.size, 0, none⟩ 1 1 [.int .u32 (i : Int)] rfl rfl (cell_new1 _ _ _) (one_cell1 _ _) (by unfold maxLen; omega) (by omega) hs3 ?_; intro v2 w5 ho5 hg5 _; obtain ⟨hb25, hx5, hc51, hf51⟩ := put_mid hs2 HX2.out hg1 ho2 hg5; obtain ⟨va2, vc2, rfl⟩ := row_val ho5; obtain ⟨ho6, hon6, hs6, hx6, hy6, hb6, hc54⟩ := put2 hs2 HY2.out hb25 hx5 ho5 hon2 hlt; have HO6 := Lib.hid ho6; have HX6 := Lib.hid hx6; have HY6 := Lib.hid hy6; clear hx5 ho6 hx6 hy6 ho5) | (at_builtin; refine wpList_append_row rfl (.const (.slice none 0 0)) (.tmp 19) 54 rfl (w.heap.size + 2) 4 i1 (.bool false) 1 Try.underlying54 ki kz0 kz1 kz2 rfl (.slice none 0 0) 0 [] rfl (World.ownsRow_nil _ _ _ _) B oa σ.cap oc (ons σ) rfl hon6 (ons_one _) (by unfold maxLen; omega) (by omega) hs6 ?_; intro v3 w7 ho7 hg7; rw [Nat.zero_add, List.nil_append] at ho7; obtain ⟨va3, vc3, rfl⟩ := row_val ho7; obtain ⟨g3, rfl⟩ := row_head ho7 (by omega); obtain ⟨hc74, hf74, ho8, hon8, hx8, hy8, hb8⟩ := put3 hs6 HX6.out HY6.out hb6 HO6.out hg7 ho7 hbl2.size; have hcj := (hon8.cellAt (i - 1) (by omega)).trans (ons_at σ (i - 1) (by omega)); have hfj := hon8.frozenAt (i - 1); have HO8 := Lib.hid ho8; have HON8 := Lib.hid hon8; have HX8 := Lib.hid hx8; have HY8 := Lib.hid hy8; have hc84 := cell_of_row _ w.heap.size 4 _ _ _ hx8; simp at hc84; obtain ⟨hx9, hy9, hb9, ho9, hon9⟩ := put4 (j := i - 1) (x := .bool false) hx8 hy8 hb8 ho8 hon8; have HX9 := Lib.hid hx9; have HY9 := Lib.hid hy9; have HO9 := Lib.hid ho9; have HON9 := Lib.hid hon9; clear hx8 hy8 ho8 hon8 hx9 hy9 ho9 hon9) | refine wpList_load_row rfl 56 (.tmp 2) rfl w.heap.size rfl 56 _ (0, 0) _ HX9.out HU.out rfl HI.out ?_ | refine wpList_store_row rfl 56 (.tmp 4) (.tmp 27) rfl (w.heap.size + 1) #[.int .i64 (σ.cap : Int), .slice va2 (st.length + 1) vc2, .int .i64 (fr : Int), .slice ga σ.cap gc, .slice (some ⟨g3, 0, none⟩) σ.cap vc3] rfl rfl 56 _ HY9.out HI.out rfl (fields_one _ _ _ _ _ _ _ _ _ _ _) ?_)
  have hl : (st ++ [i]).length = st.length + 1 := by simp
  have hB2 : B ≤ w.heap.size + 2 := by omega
  have hh := HH.out
  have hrow : ∀ k, k ≠ w.heap.size + 1 → ∀ (W : World) (cs : Array Value), (W.setRow (w.heap.size + 1) cs).heap[k]? = W.heap[k]? := fun k hk W cs => setRow_other W _ k cs hk
  refine bodyPost_ret (v := .tuple #[.agg #[.int .i64 (σ.cap : Int), .slice va2 (st.length + 1) vc2, .int .i64 (fr : Int), .slice ga σ.cap gc, .slice (some ⟨g3, 0, none⟩) σ.cap vc3], .int .i64 0])
    (results_row_tmp (fn := Try.f64) (p := 4) (u := 5) rfl _ _ (w.heap.size + 1) 56 #[.int .i64 (σ.cap : Int), .slice va2 (st.length + 1) vc2, .int .i64 (fr : Int), .slice ga σ.cap gc, .slice (some ⟨g3, 0, none⟩) σ.cap vc3] (0, 0) _ rfl (setRow_heap _ _ _ _ _ _ HY9.out) HU.out rfl HI.out) rfl ⟨va2, some ⟨g3, 0, none⟩, vc2, vc3, by unfold refV; rw [hl]; rfl, ?_, ?_⟩
  · refine ⟨?_, hh.fr1, hh.fr2, ?_, ?_, ?_, fun k hk => ?_, fun k hk => .inl (hh.inG k hk), fun k hk => ?_⟩
    · show i :: σ.free = _
      rw [hh.free]; simp [St.put]
    · rw [hl, u32s_snoc]
      exact row_mono (row_keep HO9.out fun k hk => hrow k (by have := row_from HO9.out k hk; omega) _ _) hB2
    · refine row_keep HGEN.out fun k hk => ?_
      have := (row_lt hh.gen k hk).2
      rw [hrow k (by omega), hb9.block k this]
    · rw [ons_put σ i hi1]
      exact row_mono (row_keep HON9.out fun k hk => hrow k (by have := row_from HON9.out k hk; omega) _ _) hB2
    · rw [hl] at hk
      have := row_from HO9.out k hk
      exact .inr (by omega)
    · have := row_from HON9.out k hk
      exact .inr (by omega)
  · exact hbl2.trans (below_setRow hb9 (by omega) _)
end
end Go.Proofs.Ytnmookemeibioaa
