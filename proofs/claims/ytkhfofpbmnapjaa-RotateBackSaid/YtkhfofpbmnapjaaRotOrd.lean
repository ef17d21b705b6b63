/- The laws of rotations: the node at an index of a dump, whether a node has an entry and children, which rotation is called. The laws of rotations: whether an index has the form that a rotation asks. What a rotation leaves of a tree: the order of its entries; the rotations beside rows and boxes. -/
import Derived.Test.YtkhfofpbmnapjaaRotCon
import Derived.Test.YtkhfofpbmnapjaaRefNode
import Derived.Test.YtkhfofpbmnapjaaScnMut
set_option linter.unusedVariables false
set_option linter.unusedSimpArgs false
namespace Go.Proofs.Ytkhfofpbmnapjaa
open Go.RowKit
set_option maxHeartbeats 1000000 in
set_option maxRecDepth 100000 in
theorem at12_any {w : World} {a b : Option Addr} {N c m d i : Nat} {A : Ar} (h : SlotsAt w a N A.sl) (hok : A.σ.Ok) (hN : A.σ.cap = N) (hi : i < 4294967296) :
    Calls Try.prog 14 #[.agg #[.slice a N c, .slice b m d], .int .u32 (i : Int)] w (Calm w (.agg (ndRow (A.nz i)))) := by
  have hcap := hok.cap2
  have hz : ∀ w, (zeroValue 40).run Try.prog w = .ok (.agg (ndRow Nd.zero)) w := by
    have h : (Try.prog.info? 40).map (·.zero) = some (some (.agg (ndRow Nd.zero))) := by kernel_rfl
    intro w
    cases hi : Try.prog.info? 40 with
    | none => simp [hi] at h
    | some i =>
      have hz : i.zero = some (.agg (ndRow Nd.zero)) := by simpa [hi] using h
      simp [zeroValue, typeInfo, hi, hz]
  have hin : (Try.prog.info? 40).map (·.size) = some 8 := by kernel_rfl
  have HI := Lib.hid hin
  have hal := al_on hok i
  obtain ⟨w1, hw1⟩ : ∃ w1, w1 = (w.alloc (Obj.cells #[Value.slice a N c, Value.slice b m d] 32)).alloc (Obj.cells (ndRow Nd.zero) 40) := ⟨_, rfl⟩
  have hb1 : Below w.heap.size w w1 := by rw [hw1]; exact ((Below.refl _ _).alloc (Nat.le_refl _) _).alloc (by simp) _
  have HB1 := Lib.hid hb1
  have hrow1 : w1.heap[w.heap.size + 1]? = some (.cells (ndRow Nd.zero) 40 (0, 0)) := by rw [hw1]; exact heap_alloc2_new w _ _
  have HR1 := Lib.hid hrow1
  have hbox : w1.heap[w.heap.size]? = some (.cells #[Value.slice a N c, Value.slice b m d] 32 (0, 0)) := by rw [hw1]; exact heap_alloc2_old w _ _
  obtain ⟨hc0, hc1⟩ := two_cells hbox
  have hs1 := h.below hb1
  have HS1 := Lib.hid hs1
  have HBOX := Lib.hid hbox
  have hcall := dallocated_any (b := b) (m := m) (d := d) (c := c) hs1 (by omega) hi
  have HC : Hid (Calls Try.prog 34 #[.agg #[.slice a N c, .slice b m d], .int .u32 (i : Int)] w1 (Calm w1 (.bool (A.σ.on i)))) := by
    have e : decide (1 ≤ i ∧ i ≤ N ∧ (A.sl (i - 1)).on = true) = A.σ.on i := by
      rw [← hN]
      have h2 : (1 ≤ i ∧ i ≤ A.σ.cap ∧ (A.sl (i - 1)).on = true) ↔ A.σ.on i = true := hal
      cases ho : A.σ.on i
      · exact decide_eq_false fun h3 => by rw [h2, ho] at h3; cases h3
      · exact decide_eq_true (h2.2 ho)
    rw [e] at hcall
    exact hcall
  clear hcall hal hs1 hrow1 hb1 hbox hin
  go_enter Try.func14, Try.ntmps14
  go_upto_region 1 with fail
  rw [← hw1]
  have HU : Hid _ := Lib.hid Try.underlying40
  have hq : w.heap.size + 1 < w1.heap.size := (Array.getElem?_eq_some_iff.1 HR1.out).1
  have hsz1 : w.heap.size ≤ w1.heap.size := by omega
  clear hw1 hz h
  go_wp2_with fail
  refine HC.out.mono ?_
  rintro e w2 ⟨rfl, hb2⟩
  have HR2 : Hid (w2.heap[w.heap.size + 1]? = some (.cells (ndRow Nd.zero) 40 (0, 0))) := (hb2.block _ hq).trans HR1.out
  have HB2 : Hid (Below w.heap.size w w2) := HB1.out.trans (hb2.mono hsz1)
  have hbox2 := (hb2.block w.heap.size (by omega)).trans HBOX.out
  obtain ⟨hc0, hc1⟩ := two_cells hbox2
  have hS2 := HS1.out.below hb2
  clear hbox2 hb2 hsz1 hq
  cases ho : A.σ.on i
  · have hnz : A.nz i = Nd.zero := by unfold Ar.nz; rw [ho]; rfl
    have HNZ := Lib.hid hnz
    clear hnz hS2 ho
    go_wp2_with (refine wpList_store_row rfl 40 (.tmp 4) (.tmp 9) rfl (w.heap.size + 1) (ndRow Nd.zero) rfl rfl 40 _ HR2.out HI.out rfl (ndRow_one _) ?_)
    exact bodyPost_ret (v := .agg (ndRow Nd.zero)) (results_cell_row rfl _ _ (w.heap.size + 1) 40 (ndRow Nd.zero) (0, 0) _ rfl (setRow_heap _ _ _ _ _ _ HR2.out) HU.out rfl HI.out) rfl ⟨by rw [HNZ.out], below_setRow HB2.out (Nat.le_succ _) _⟩
  · have hnz : A.nz i = A.nd i := by unfold Ar.nz; rw [ho]; rfl
    have h1 := hok.on i ho
    rw [hN] at h1
    obtain ⟨j, rfl⟩ : ∃ j, i = j + 1 := ⟨i - 1, by omega⟩
    obtain ⟨b', off, rfl, hlb, _, _, _, d3, d4, d5, d6, d7, d8, d9, d10⟩ := hS2.all (show j < N by omega)
    have e : (A.sl j).nd = A.nd (j + 1) := rfl
    rw [e] at d3 d4 d5 d6 d7 d8 d9 d10
    generalize A.nd (j + 1) = x at d3 d4 d5 d6 d7 d8 d9 d10 hnz
    have HNZ := Lib.hid hnz
    have hX1 : (1 : Int) ≤ ((j + 1 : Nat) : Int) := by omega
    obtain ⟨Xi, hXi⟩ : ∃ Y : Int, ((j + 1 : Nat) : Int) = Y := ⟨_, rfl⟩
    have hXw : IntKind.u32.wrap (Xi - 1) = Xi - 1 := by rw [IntKind.wrap_u32']; omega
    have hX2 : (Xi - 1).toNat = j := by omega
    have hX4 : Xi - 1 < (N : Int) := by omega
    have hX5 : (0 : Int) ≤ Xi - 1 := by omega
    rw [hXi] at hX1 ⊢
    clear hXi hnz hS2 ho h1 e hi
    go_wp2_with (refine wpList_store_row rfl 40 (.tmp 4) (.tmp 16) rfl (w.heap.size + 1) (ndRow x) rfl rfl 40 _ HR2.out HI.out rfl (ndRow_one _) ?_)
    exact bodyPost_ret (v := .agg (ndRow x)) (results_cell_row rfl _ _ (w.heap.size + 1) 40 (ndRow x) (0, 0) _ rfl (setRow_heap _ _ _ _ _ _ HR2.out) HU.out rfl HI.out) rfl ⟨by rw [HNZ.out], below_setRow HB2.out (Nat.le_succ _) _⟩
def isB (x e : Nd) (l r : Nat) : Bool := x.key == e.key && (x.val == e.val && (x.left == l && x.right == r))
set_option maxHeartbeats 2000000 in
set_option maxRecDepth 100000 in
theorem is12_any (x e : Nd) (l r : Nat) (w : World) : Calls Try.prog 15 #[.agg (ndRow x), .agg (ndRow e), .int .u32 (l : Int), .int .u32 (r : Int)] w (Calm w (.bool (isB x e l r))) := by
  have hx1 := heap_alloc2_old w (Obj.cells (ndRow x) 40) (Obj.cells (ndRow e) 40)
  have hx2 := heap_alloc2_new w (Obj.cells (ndRow x) 40) (Obj.cells (ndRow e) 40)
  have hb : Below w.heap.size w ((w.alloc (Obj.cells (ndRow x) 40)).alloc (Obj.cells (ndRow e) 40)) := ((Below.refl _ _).alloc (Nat.le_refl _) _).alloc (by simp) _
  have HB := Lib.hid hb
  have H1 := Lib.hid hx1
  have H2 := Lib.hid hx2
  clear hb hx1 hx2
  go_enter Try.func15, Try.ntmps15
  go_upto_region 1 with fail
  generalize (w.alloc (Obj.cells (ndRow x) 40)).alloc (Obj.cells (ndRow e) 40) = w1 at HB H1 H2 ⊢
  have x0 : w1.cell? ⟨w.heap.size, 0, none⟩ = some (.int .i64 x.key) := by rw [cell_of_row _ _ _ _ _ _ H1.out]; rfl
  have x1 : w1.cell? ⟨w.heap.size, 1, none⟩ = some (.int .i64 x.val) := by rw [cell_of_row _ _ _ _ _ _ H1.out]; rfl
  have x2 : w1.cell? ⟨w.heap.size, 2, none⟩ = some (.int .u32 (x.left : Int)) := by rw [cell_of_row _ _ _ _ _ _ H1.out]; rfl
  have x3 : w1.cell? ⟨w.heap.size, 3, none⟩ = some (.int .u32 (x.right : Int)) := by rw [cell_of_row _ _ _ _ _ _ H1.out]; rfl
  have y0 : w1.cell? ⟨w.heap.size + 1, 0, none⟩ = some (.int .i64 e.key) := by rw [cell_of_row _ _ _ _ _ _ H2.out]; rfl
  have y1 : w1.cell? ⟨w.heap.size + 1, 1, none⟩ = some (.int .i64 e.val) := by rw [cell_of_row _ _ _ _ _ _ H2.out]; rfl
  have cl : ∀ a b : Nat, ((a : Int) == (b : Int)) = (a == b) := fun a b => by rw [Bool.eq_iff_iff, beq_iff_eq, beq_iff_eq]; omega
  have e3 : isB x e l r = (x.key == e.key && (x.val == e.val && (((x.left : Int) == (l : Int)) && ((x.right : Int) == (r : Int))))) := by unfold isB; rw [cl, cl]
  clear cl H1 H2
  generalize x.key = a0, x.val = a1, (x.left : Int) = a2, (x.right : Int) = a3, e.key = b0, e.val = b1, (l : Int) = b2, (r : Int) = b3 at x0 x1 x2 x3 y0 y1 e3 ⊢
  have E3 := Lib.hid e3
  clear e3
  cases h0 : (a0 == b0)
  · go_wp2_with fail
    go_ret
    exact ⟨by rw [E3.out, h0]; rfl, HB.out⟩
  cases h1 : (a1 == b1)
  · go_wp2_with fail
    go_ret
    exact ⟨by rw [E3.out, h0, h1]; rfl, HB.out⟩
  cases h2 : (a2 == b2)
  · go_wp2_with fail
    go_ret
    exact ⟨by rw [E3.out, h0, h1, h2]; rfl, HB.out⟩
  cases h3 : (a3 == b3)
  · go_wp2_with fail
    go_ret
    exact ⟨by rw [E3.out, h0, h1, h2, h3]; rfl, HB.out⟩
  · go_wp2_with fail
    go_ret
    exact ⟨by rw [E3.out, h0, h1, h2, h3]; rfl, HB.out⟩
theorem allocated_ar {w : World} {a b : Option Addr} {N c m d i : Nat} {A : Ar} (h : SlotsAt w a N A.sl) (hok : A.σ.Ok) (hN : A.σ.cap = N) (hi : i < 4294967296) :
    Calls Try.prog 34 #[.agg #[.slice a N c, .slice b m d], .int .u32 (i : Int)] w (Calm w (.bool (A.σ.on i))) := by
  have hcap := hok.cap2
  have hal := al_on hok i
  have hcall := dallocated_any (b := b) (m := m) (d := d) (c := c) h (by omega) hi
  have e : decide (1 ≤ i ∧ i ≤ N ∧ (A.sl (i - 1)).on = true) = A.σ.on i := by
    rw [← hN]
    have h2 : (1 ≤ i ∧ i ≤ A.σ.cap ∧ (A.sl (i - 1)).on = true) ↔ A.σ.on i = true := hal
    cases ho : A.σ.on i
    · exact decide_eq_false fun h3 => by rw [h2, ho] at h3; cases h3
    · exact decide_eq_true (h2.2 ho)
  rw [e] at hcall
  exact hcall
set_option maxHeartbeats 2000000 in
set_option maxRecDepth 100000 in
theorem fresh12_any {w : World} {a b a' b' : Option Addr} {N c m d c' m' d' i : Nat} {A B : Ar} (h : SlotsAt w a N A.sl) (hok : A.σ.Ok) (hN : A.σ.cap = N) (h' : SlotsAt w a' N B.sl) (hok' : B.σ.Ok) (hN' : B.σ.cap = N) (hi : i < 4294967296) :
    Calls Try.prog 16 #[.agg #[.slice a N c, .slice b m d], .agg #[.slice a' N c', .slice b' m' d'], .int .u32 (i : Int)] w (Calm w (.bool (B.σ.on i && !A.σ.on i))) := by
  have hx1 := heap_alloc2_old w (Obj.cells #[Value.slice a N c, .slice b m d] 32) (Obj.cells #[Value.slice a' N c', .slice b' m' d'] 32)
  have hx2 := heap_alloc2_new w (Obj.cells #[Value.slice a N c, .slice b m d] 32) (Obj.cells #[Value.slice a' N c', .slice b' m' d'] 32)
  have hb : Below w.heap.size w ((w.alloc (Obj.cells #[Value.slice a N c, .slice b m d] 32)).alloc (Obj.cells #[Value.slice a' N c', .slice b' m' d'] 32)) := ((Below.refl _ _).alloc (Nat.le_refl _) _).alloc (by simp) _
  have hs : w.heap.size + 1 < ((w.alloc (Obj.cells #[Value.slice a N c, .slice b m d] 32)).alloc (Obj.cells #[Value.slice a' N c', .slice b' m' d'] 32)).heap.size := by simp
  obtain ⟨w1, hw1⟩ : ∃ w1, (w.alloc (Obj.cells #[Value.slice a N c, .slice b m d] 32)).alloc (Obj.cells #[Value.slice a' N c', .slice b' m' d'] 32) = w1 := ⟨_, rfl⟩
  rw [hw1] at hx1 hx2 hb hs
  have HC1 : Hid (∀ wx, Below w1.heap.size w1 wx → Calls Try.prog 34 #[.agg #[.slice a N c, .slice b m d], .int .u32 (i : Int)] wx (Calm wx (.bool (A.σ.on i)))) := fun wx hx => allocated_ar ((h.below hb).below hx) hok hN hi
  have HC2 : Hid (∀ wx, Below w1.heap.size w1 wx → Calls Try.prog 34 #[.agg #[.slice a' N c', .slice b' m' d'], .int .u32 (i : Int)] wx (Calm wx (.bool (B.σ.on i)))) := fun wx hx => allocated_ar ((h'.below hb).below hx) hok' hN' hi
  have HK : Hid (∀ wx, Below w1.heap.size w1 wx → ((wx.cell? ⟨w.heap.size, 0, none⟩ = some (.slice a N c) ∧ wx.cell? ⟨w.heap.size, 1, none⟩ = some (.slice b m d)) ∧ wx.cell? ⟨w.heap.size + 1, 0, none⟩ = some (.slice a' N c') ∧ wx.cell? ⟨w.heap.size + 1, 1, none⟩ = some (.slice b' m' d')) ∧ Below w.heap.size w wx) := fun wx hx =>
    ⟨⟨two_cells ((hx.block _ (by omega)).trans hx1), two_cells ((hx.block _ (by omega)).trans hx2)⟩, hb.trans (hx.mono hb.size)⟩
  clear h hok hN h' hok' hN' hi hx1 hx2 hb hs
  go_enter Try.func16, Try.ntmps16
  go_upto_region 1 with fail
  clear hw1
  obtain ⟨⟨⟨q0, q1⟩, p0, p1⟩, -⟩ := HK.out w1 (Below.refl _ _)
  cases ho : B.σ.on i
  · go_wp2_with fail
    refine (HC2.out _ (Below.refl _ _)).mono ?_
    rintro e w2 ⟨rfl, hb2⟩
    rw [ho]
    have HB2 := Lib.hid (HK.out _ hb2).2
    clear hb2 q0 q1 p0 p1
    go_wp2_with fail
    go_ret
    exact ⟨by rw [ho]; rfl, HB2.out⟩
  · go_wp2_with fail
    refine (HC2.out _ (Below.refl _ _)).mono ?_
    rintro e w2 ⟨rfl, hb2⟩
    rw [ho]
    have HB2 := Lib.hid hb2
    obtain ⟨⟨⟨q0, q1⟩, p0, p1⟩, -⟩ := HK.out _ hb2
    clear hb2
    go_wp2_with fail
    refine (HC1.out _ HB2.out).mono ?_
    rintro e w3 ⟨rfl, hb3⟩
    have HB3 := Lib.hid (HK.out _ (HB2.out.trans (hb3.mono HB2.out.size))).2
    clear hb3 q0 q1 p0 p1
    cases hp : A.σ.on i
    · go_wp2_with fail
      go_ret
      exact ⟨by rw [ho, hp]; rfl, HB3.out⟩
    · go_wp2_with fail
      go_ret
      exact ⟨by rw [ho, hp]; rfl, HB3.out⟩
end Go.Proofs.Ytkhfofpbmnapjaa
set_option linter.unusedVariables false
set_option linter.unusedSimpArgs false
namespace Go.Proofs.Ytkhfofpbmnapjaa
open Go.RowKit
theorem run_lft (v0 v1 v2 v3 v4 v5 v6 v7 : Value) (w : World) : Sem.run Try.prog (Instr.field 40 (.agg #[v0, v1, v2, v3, v4, v5, v6, v7]) 2) w = .ok v2 w := by
  simp [Instr.field, run_underlying Try.underlying40, part, asAgg, Result.andThen]
theorem run_rgt (v0 v1 v2 v3 v4 v5 v6 v7 : Value) (w : World) : Sem.run Try.prog (Instr.field 40 (.agg #[v0, v1, v2, v3, v4, v5, v6, v7]) 3) w = .ok v3 w := by
  simp [Instr.field, run_underlying Try.underlying40, part, asAgg, Result.andThen]
set_option maxHeartbeats 4000000 in
set_option maxRecDepth 100000 in
theorem formed12_any {w : World} {a b : Option Addr} {N c m d k i : Nat} {A : Ar} (h : SlotsAt w a N A.sl) (hok : A.σ.Ok) (hN : A.σ.cap = N) (hi : i < 4294967296) (hk : k ≤ 3) (hcl : ∀ j, A.σ.on j = true → A.Idx (A.nd j).left ∧ A.Idx (A.nd j).right) :
    Calls Try.prog 12 #[.agg #[.slice a N c, .slice b m d], .int .u32 (i : Int), .int .i64 (k : Int)] w (Calm w (.bool (rform A k i))) := by
  have hb1 : Below w.heap.size w (w.alloc (Obj.cells #[.slice a N c, .slice b m d] 32)) := (Below.refl _ _).alloc (Nat.le_refl _) _
  have hx1 := heap_alloc_new w (Obj.cells #[.slice a N c, .slice b m d] 32)
  have hg1 : w.heap.size < (w.alloc (Obj.cells #[.slice a N c, .slice b m d] 32)).heap.size := by simp
  have HAT : Hid (∀ wx, Below w.heap.size w wx → ∀ j : Nat, j < 4294967296 → Calls Try.prog 14 #[.agg #[.slice a N c, .slice b m d], .int .u32 (j : Int)] wx (Calm wx (.agg (ndRow (A.nz j))))) := fun wx hx j hj => at12_any (h.below hx) hok hN hj
  have HAL : Hid (∀ wx, Below w.heap.size w wx → Calls Try.prog 34 #[.agg #[.slice a N c, .slice b m d], .int .u32 (i : Int)] wx (Calm wx (.bool (A.σ.on i)))) := fun wx hx => allocated_ar (h.below hx) hok hN hi
  have H4 : Hid (∀ j : Nat, A.Idx j → j < 4294967296 ∧ (j ≠ 0 → A.nz j = A.nd j)) := fun j hj => by
    refine ⟨?_, fun h0 => ?_⟩
    · rcases hj with hj | hj
      · omega
      · have := hok.on j hj; have := hok.cap2; omega
    · unfold Ar.nz; rw [hj.resolve_left h0]; rfl
  have HI := Lib.hid hi
  have HCL := Lib.hid hcl
  have HB1 := Lib.hid hb1
  have HX1 := Lib.hid hx1
  have HG1 := Lib.hid hg1
  clear h hok hN hcl hi hb1 hx1 hg1
  go_enter Try.func12, Try.ntmps12
  go_upto_region 1 with fail
  generalize w.alloc (Obj.cells #[.slice a N c, .slice b m d] 32) = w1 at HB1 HX1 HG1 ⊢
  obtain ⟨q0, q1⟩ := two_cells HX1.out
  go_wp2_with fail
  refine (HAT.out w1 HB1.out i HI.out).mono ?_
  rintro e w2 ⟨rfl, hb2⟩
  have HB2 : Hid (Below w1.heap.size w1 w2) := hb2
  clear q0 q1 hb2
  have hb4 : Below w2.heap.size w2 (w2.alloc (Obj.cells (ndRow (A.nz i)) 40)) := (Below.refl _ _).alloc (Nat.le_refl _) _
  have hn4 := heap_alloc_new w2 (Obj.cells (ndRow (A.nz i)) 40)
  have hg4 : w2.heap.size < (w2.alloc (Obj.cells (ndRow (A.nz i)) 40)).heap.size := by simp
  unfold ndRow
  go_upto_region 2 with fail
  rw [show #[Value.int .i64 (A.nz i).key, .int .i64 (A.nz i).val, .int .u32 ((A.nz i).left : Int), .int .u32 ((A.nz i).right : Int), .int .i64 (A.nz i).size, .int .i64 (A.nz i).sum, .int .i64 (A.nz i).mn, .int .i64 (A.nz i).mx] = ndRow (A.nz i) from rfl]
  have HB4 : Hid (Below w1.heap.size w1 (w2.alloc (Obj.cells (ndRow (A.nz i)) 40))) := HB2.out.trans (hb4.mono HB2.out.size)
  generalize w2.alloc (Obj.cells (ndRow (A.nz i)) 40) = w4 at hn4 hg4 HB4 ⊢
  generalize w2.heap.size = gn at hn4 hg4 ⊢
  have HN4 := Lib.hid hn4
  have HG4 := Lib.hid hg4
  clear hb4 hn4 hg4 HB2
  obtain ⟨lx, hlx⟩ : ∃ x, (A.nz i).left = x := ⟨_, rfl⟩
  obtain ⟨rx, hrx⟩ : ∃ x, (A.nz i).right = x := ⟨_, rfl⟩
  have HC : Hid (∀ wx, Below w4.heap.size w4 wx → (wx.cell? ⟨w.heap.size, 0, none⟩ = some (.slice a N c) ∧ wx.cell? ⟨w.heap.size, 1, none⟩ = some (.slice b m d)) ∧ (wx.cell? ⟨gn, 2, none⟩ = some (.int .u32 (lx : Int)) ∧ wx.cell? ⟨gn, 3, none⟩ = some (.int .u32 (rx : Int))) ∧ Below w.heap.size w wx) := fun wx hb => by
    have hb' : Below w1.heap.size w1 wx := HB4.out.trans (hb.mono HB4.out.size)
    have hq := (hb'.block _ HG1.out).trans HX1.out
    have hn := (hb.block gn HG4.out).trans HN4.out
    subst hlx hrx
    exact ⟨two_cells hq, ⟨by rw [cell_of_row _ _ _ _ _ _ hn]; rfl, by rw [cell_of_row _ _ _ _ _ _ hn]; rfl⟩, HB1.out.trans (hb'.mono HB1.out.size)⟩
  have HLX := Lib.hid hlx
  have HRX := Lib.hid hrx
  clear hlx hrx HN4 HG4 HB4 HX1 HG1 HB1
  obtain ⟨⟨q0, q1⟩, ⟨n2, n3⟩, hb0⟩ := HC.out w4 (Below.refl _ _)
  go_wp2_with fail
  refine (HAL.out w4 hb0).mono ?_
  rintro e w5 ⟨rfl, hb5⟩
  have HB5 := Lib.hid hb5
  clear q0 q1 n2 n3 hb0 hb5
  cases ho : A.σ.on i
  · have HF : Hid (rform A k i = false) := by show _ = _; unfold rform; rw [ho]; rfl
    have HW := Lib.hid (HC.out w5 HB5.out).2.2
    clear ho
    go_wp2_with fail
    go_ret
    exact ⟨by rw [HF.out]; rfl, HW.out⟩
  have hnz : A.nz i = A.nd i := by unfold Ar.nz; rw [ho]; rfl
  have hl := (HCL.out i ho).1
  have hr := (HCL.out i ho).2
  rw [← hnz] at hl hr
  rw [HLX.out] at hl
  rw [HRX.out] at hr
  have HL := Lib.hid (H4.out lx hl)
  have HR := Lib.hid (H4.out rx hr)
  have HF0 : Hid (rform A 0 i = (rx != 0)) := by show _ = _; unfold rform; rw [ho, ← hnz, HRX.out]; rfl
  have HF1 : Hid (rform A 1 i = (lx != 0)) := by show _ = _; unfold rform; rw [ho, ← hnz, HLX.out]; rfl
  have HF2 : Hid (rform A 2 i = (rx != 0 && (A.nd rx).left != 0)) := by show _ = _; unfold rform; rw [ho, ← hnz, HRX.out]; rfl
  have HF3 : Hid (rform A 3 i = (lx != 0 && (A.nd lx).right != 0)) := by show _ = _; unfold rform; rw [ho, ← hnz, HLX.out]; rfl
  obtain ⟨⟨q0, q1⟩, ⟨n2, n3⟩, hb0⟩ := HC.out w5 HB5.out
  have HW := Lib.hid hb0
  have cne : ∀ n : Nat, ((n : Int) != 0) = (n != 0) := fun n => by rw [Bool.eq_iff_iff, bne_iff_ne, bne_iff_ne]; omega
  have CNE := Lib.hid cne
  clear cne
  have hk4 : k = 0 ∨ k = 1 ∨ k = 2 ∨ k = 3 := by omega
  clear ho hnz hl hr hb0 hk
  rcases hk4 with rfl | rfl | rfl | rfl
  · go_wp2_with fail
    go_ret
    exact ⟨by rw [HF0.out, ← CNE.out]; rfl, HW.out⟩
  · go_wp2_with fail
    go_ret
    exact ⟨by rw [HF1.out, ← CNE.out]; rfl, HW.out⟩
  · by_cases h0 : rx = 0
    · have HE : Hid ((rx != 0) = false) := by show _ = _; rw [h0]; rfl
      have h1 : ((rx : Int) != 0) = false := (CNE.out rx).trans HE.out
      clear h0
      go_wp2_with fail
      go_ret
      exact ⟨by rw [HF2.out, HE.out]; rfl, HW.out⟩
    · have HE : Hid ((rx != 0) = true) := by show _ = _; simp; exact h0
      have h1 : ((rx : Int) != 0) = true := (CNE.out rx).trans HE.out
      have HZ := Lib.hid (HR.out.2 h0)
      clear h0
      go_wp2_with fail
      refine (HAT.out w5 HW.out rx HR.out.1).mono ?_
      rintro e w6 ⟨rfl, hb6⟩
      rw [HZ.out]
      have HW6 := Lib.hid (HW.out.trans (hb6.mono HW.out.size))
      clear hb6 q0 q1 n2 n3
      unfold ndRow
      obtain ⟨y, hy⟩ : ∃ y, (A.nd rx).left = y := ⟨_, rfl⟩
      rw [hy] at HF2 ⊢
      clear hy
      have hf := run_lft (.int .i64 (A.nd rx).key) (.int .i64 (A.nd rx).val) (.int .u32 (y : Int)) (.int .u32 ((A.nd rx).right : Int)) (.int .i64 (A.nd rx).size) (.int .i64 (A.nd rx).sum) (.int .i64 (A.nd rx).mn) (.int .i64 (A.nd rx).mx) w6
      go_wp2_with fail
      go_ret
      exact ⟨by rw [HF2.out, HE.out, ← CNE.out]; rfl, HW6.out⟩
  · by_cases h0 : lx = 0
    · have HE : Hid ((lx != 0) = false) := by show _ = _; rw [h0]; rfl
      have h1 : ((lx : Int) != 0) = false := (CNE.out lx).trans HE.out
      clear h0
      go_wp2_with fail
      go_ret
      exact ⟨by rw [HF3.out, HE.out]; rfl, HW.out⟩
    · have HE : Hid ((lx != 0) = true) := by show _ = _; simp; exact h0
      have h1 : ((lx : Int) != 0) = true := (CNE.out lx).trans HE.out
      have HZ := Lib.hid (HL.out.2 h0)
      clear h0
      go_wp2_with fail
      refine (HAT.out w5 HW.out lx HL.out.1).mono ?_
      rintro e w6 ⟨rfl, hb6⟩
      rw [HZ.out]
      have HW6 := Lib.hid (HW.out.trans (hb6.mono HW.out.size))
      clear hb6 q0 q1 n2 n3
      unfold ndRow
      obtain ⟨y, hy⟩ : ∃ y, (A.nd lx).right = y := ⟨_, rfl⟩
      rw [hy] at HF3 ⊢
      clear hy
      have hf := run_rgt (.int .i64 (A.nd lx).key) (.int .i64 (A.nd lx).val) (.int .u32 ((A.nd lx).left : Int)) (.int .u32 (y : Int)) (.int .i64 (A.nd lx).size) (.int .i64 (A.nd lx).sum) (.int .i64 (A.nd lx).mn) (.int .i64 (A.nd lx).mx) w6
      go_wp2_with fail
      go_ret
      exact ⟨by rw [HF3.out, HE.out, ← CNE.out]; rfl, HW6.out⟩
end Go.Proofs.Ytkhfofpbmnapjaa
set_option linter.unusedVariables false
set_option linter.unusedSimpArgs false
namespace Go.Proofs.Ytkhfofpbmnapjaa
open Go.RowKit
theorem NewIn.ne {A B : Ar} {held : Nat → Nat} (hv : B.Inv [] held) {j : Nat} (h : NewIn A B j) : j ≠ 0 := by
  have := hv.ok.on j h.1
  omega
theorem sub_new {B : Ar} {j l r : Nat} {e : Nd} {a b : Tr} (h0 : j ≠ 0) (h1 : B.σ.on j = true) (hn : isNd (B.nd j) e l r) (ha : Sub B l a) (hb : Sub B r b) : Sub B j (.node j a b) ∧ (Tr.node j a b).ents B.nd = a.ents B.nd ++ ⟨e.key, e.val⟩ :: b.ents B.nd := by
  obtain ⟨h2, h3, h4, h5⟩ := hn
  refine ⟨.node j a b h0 h1 (by rw [h4]; exact ha) (by rw [h5]; exact hb), ?_⟩
  rw [Tr.ents_node, h2, h3]
theorem rform_on {A : Ar} {k i : Nat} (h : rform A k i = true) : A.σ.on i = true := by
  unfold rform at h
  simp only [Bool.and_eq_true] at h
  exact h.1
theorem sub_inv {A : Ar} {i : Nat} {t : Tr} (h : Sub A i t) (h0 : i ≠ 0) : ∃ l r, t = .node i l r ∧ Sub A (A.nd i).left l ∧ Sub A (A.nd i).right r := by
  cases h with
  | nil => exact absurd rfl h0
  | node i l r _ _ hl hr => exact ⟨l, r, rfl, hl, hr⟩
theorem sub_rot {A B : Ar} {held held' : Nat → Nat} {k i j : Nat} {t : Tr} (hk3 : k ≤ 3) (hA : A.Inv [] held) (hB : B.Inv [] held') (hs : Sub A i t) (hk : A.Kept B) (hf : rform A k i = true) (hn : RNodes A B k i j) :
    ∃ t', Sub B j t' ∧ t'.ents B.nd = t.ents A.nd := by
  have hon := rform_on hf
  have hi0 : i ≠ 0 := by have := hA.ok.on i hon; omega
  obtain ⟨l, r, rfl, hl, hr⟩ := sub_inv hs hi0
  have hk4 : k = 0 ∨ k = 1 ∨ k = 2 ∨ k = 3 := by omega
  rcases hk4 with rfl | rfl | rfl | rfl
  · have hr0 : (A.nd i).right ≠ 0 := by unfold rform at hf; rw [hon] at hf; simpa using hf
    obtain ⟨rl, rr, rfl, hrl, hrr⟩ := sub_inv hr hr0
    obtain ⟨z, n1, n2, n3, n4⟩ := hn
    obtain ⟨s1, e1⟩ := sub_new (n2.ne hB) n2.1 n4 (hl.kept hk) (hrl.kept hk)
    obtain ⟨s2, e2⟩ := sub_new (n1.ne hB) n1.1 n3 s1 (hrr.kept hk)
    refine ⟨_, s2, ?_⟩
    rw [e2, e1, Tr.ents_node, Tr.ents_node, Tr.ents_kept hk hl, Tr.ents_kept hk hrl, Tr.ents_kept hk hrr]
    simp
  · have hr0 : (A.nd i).left ≠ 0 := by unfold rform at hf; rw [hon] at hf; simpa using hf
    obtain ⟨ll, lr, rfl, hll, hlr⟩ := sub_inv hl hr0
    obtain ⟨z, n1, n2, n3, n4⟩ := hn
    obtain ⟨s1, e1⟩ := sub_new (n2.ne hB) n2.1 n4 (hlr.kept hk) (hr.kept hk)
    obtain ⟨s2, e2⟩ := sub_new (n1.ne hB) n1.1 n3 (hll.kept hk) s1
    refine ⟨_, s2, ?_⟩
    rw [e2, e1, Tr.ents_node, Tr.ents_node, Tr.ents_kept hk hr, Tr.ents_kept hk hll, Tr.ents_kept hk hlr]
    simp
  · have hr0 : (A.nd i).right ≠ 0 ∧ (A.nd (A.nd i).right).left ≠ 0 := by unfold rform at hf; rw [hon] at hf; simpa using hf
    obtain ⟨rl, rr, rfl, hrl, hrr⟩ := sub_inv hr hr0.1
    obtain ⟨a, b, rfl, ha, hb⟩ := sub_inv hrl hr0.2
    obtain ⟨y, z, hyz, n1, n2, n3, n4, n5, n6⟩ := hn
    obtain ⟨s1, e1⟩ := sub_new (n2.ne hB) n2.1 n5 (hl.kept hk) (ha.kept hk)
    obtain ⟨s2, e2⟩ := sub_new (n3.ne hB) n3.1 n6 (hb.kept hk) (hrr.kept hk)
    obtain ⟨s3, e3⟩ := sub_new (n1.ne hB) n1.1 n4 s1 s2
    refine ⟨_, s3, ?_⟩
    rw [e3, e2, e1, Tr.ents_node, Tr.ents_node, Tr.ents_node, Tr.ents_kept hk hl, Tr.ents_kept hk ha, Tr.ents_kept hk hb, Tr.ents_kept hk hrr]
    simp
  · have hr0 : (A.nd i).left ≠ 0 ∧ (A.nd (A.nd i).left).right ≠ 0 := by unfold rform at hf; rw [hon] at hf; simpa using hf
    obtain ⟨ll, lr, rfl, hll, hlr⟩ := sub_inv hl hr0.1
    obtain ⟨a, b, rfl, ha, hb⟩ := sub_inv hlr hr0.2
    obtain ⟨y, z, hyz, n1, n2, n3, n4, n5, n6⟩ := hn
    obtain ⟨s1, e1⟩ := sub_new (n2.ne hB) n2.1 n5 (hll.kept hk) (ha.kept hk)
    obtain ⟨s2, e2⟩ := sub_new (n3.ne hB) n3.1 n6 (hb.kept hk) (hr.kept hk)
    obtain ⟨s3, e3⟩ := sub_new (n1.ne hB) n1.1 n4 s1 s2
    refine ⟨_, s3, ?_⟩
    rw [e3, e2, e1, Tr.ents_node, Tr.ents_node, Tr.ents_node, Tr.ents_kept hk hr, Tr.ents_kept hk ha, Tr.ents_kept hk hb, Tr.ents_kept hk hll]
    simp
/-- what a rotation returns, and the arena behind it -/
def RotQ (A : Ar) (rd : Int) (held : Nat → Nat) (k i : Nat) (e : Ending) (B : Ar) (rd' : Int) : Prop :=
  rd ≤ rd' ∧ rd' ≤ rd + 64 ∧ (
  (rform A k i = false ∧ e = .returned (.tuple #[.int .u32 0, .int .i64 1]) ∧ B = A) ∨
  (rform A k i = true ∧ A.σ.free.length < rneed k ∧ e = .returned (.tuple #[.int .u32 0, .int .i64 2]) ∧ B = A) ∨
  (rform A k i = true ∧ rneed k ≤ A.σ.free.length ∧ ∃ j, Turned A held B j (rneed k) ∧ RNodes A B k i j ∧ e = .returned (.tuple #[.int .u32 (j : Int), .int .i64 0])))
theorem RotRes.mut {I : AImpl} {p : Value} {A : Ar} {rd : Int} {F : Nat → Prop} {held : Nat → Nat} {k i : Nat} {w w' : World} {e : Ending} (h : RotRes I p A rd F held k i w e w') : Mut I p F (RotQ A rd held k i) w e w' := by
  obtain ⟨F', rd', hal, h1, h2, h3⟩ := h
  rcases h3 with ⟨q1, q2, q3⟩ | ⟨q1, q2, q3, q4⟩ | ⟨q1, q2, B, j, q3, q4, q5, q6⟩
  · exact ⟨F', A, rd', hal, q3, h1, h2, .inl ⟨q1, q2, rfl⟩⟩
  · exact ⟨F', A, rd', hal, q4, h1, h2, .inr (.inl ⟨q1, q2, q3, rfl⟩)⟩
  · exact ⟨F', B, rd', hal, q6, h1, h2, .inr (.inr ⟨q1, q2, j, q3, q4, q5⟩)⟩
theorem call12_res (I : AImpl) (K : RotImpl I) {p : Value} {A : Ar} {rd : Int} {F : Nat → Prop} {held : Nat → Nat} {k i : Nat} (w : World) (h : I.Is w p A rd F) (hv : A.Inv [] held) (ha : A.Agg) (hwf : A.Wf) (hm : ∀ j, held j ≤ 1048000) (h0 : 0 ≤ rd) (h1 : rd ≤ 1099511627776) (hi : i < 4294967296) (hk : k ≤ 3) :
    Calls Try.prog 11 #[p, .int .u32 (i : Int), .int .i64 (k : Int)] w (RotRes I p A rd F held k i w) := by
  have HK := Lib.hid K
  have H := Lib.hid h
  have HV := Lib.hid hv
  have HA := Lib.hid ha
  have HWF := Lib.hid hwf
  have HM := Lib.hid hm
  have HR : Hid (0 ≤ rd ∧ rd ≤ 1099511627776) := ⟨h0, h1⟩
  have HI := Lib.hid hi
  clear K h hv ha hwf hm h0 h1 hi
  have HP : Hid (∀ {k : Nat} {T : Ar → (Nat → Nat) → Prop} {e : Ending}, RotEnd A held k i T e → ∃ x y, e = .returned (.tuple #[.int .u32 x, .int .i64 y])) := fun {k T e} hq => by
    rcases hq with ⟨_, q, _⟩ | ⟨_, _, q, _⟩ | ⟨_, _, _, _, _, _, q, _⟩
    all_goals exact ⟨_, _, q⟩
  have hk4 : k = 0 ∨ k = 1 ∨ k = 2 ∨ k = 3 := by omega
  clear hk
  rcases hk4 with rfl | rfl | rfl | rfl
  · go_enter Try.func11, Try.ntmps11
    go_wp2_with fail
    refine (HK.out.left w H.out HV.out HA.out HWF.out HM.out HR.out.1 HR.out.2 HI.out).mono ?_
    rintro e w1 ⟨F', rd', hal, h2, h3, hq⟩
    obtain ⟨x, y, rfl⟩ := HP.out hq
    have HQ : Hid (RotRes I p A rd F held 0 i w (.returned (.tuple #[.int .u32 x, .int .i64 y])) w1) := ⟨F', rd', hal, h2, h3, hq⟩
    clear h2 h3 hq hal
    go_wp2_with fail
    go_ret2
    exact HQ.out
  · go_enter Try.func11, Try.ntmps11
    go_wp2_with fail
    refine (HK.out.right w H.out HV.out HA.out HWF.out HM.out HR.out.1 HR.out.2 HI.out).mono ?_
    rintro e w1 ⟨F', rd', hal, h2, h3, hq⟩
    obtain ⟨x, y, rfl⟩ := HP.out hq
    have HQ : Hid (RotRes I p A rd F held 1 i w (.returned (.tuple #[.int .u32 x, .int .i64 y])) w1) := ⟨F', rd', hal, h2, h3, hq⟩
    clear h2 h3 hq hal
    go_wp2_with fail
    go_ret2
    exact HQ.out
  · go_enter Try.func11, Try.ntmps11
    go_wp2_with fail
    refine (HK.out.dleft w H.out HV.out HA.out HWF.out HM.out HR.out.1 HR.out.2 HI.out).mono ?_
    rintro e w1 ⟨F', rd', hal, h2, h3, hq⟩
    obtain ⟨x, y, rfl⟩ := HP.out hq
    have HQ : Hid (RotRes I p A rd F held 2 i w (.returned (.tuple #[.int .u32 x, .int .i64 y])) w1) := ⟨F', rd', hal, h2, h3, hq⟩
    clear h2 h3 hq hal
    go_wp2_with fail
    go_ret2
    exact HQ.out
  · go_enter Try.func11, Try.ntmps11
    go_wp2_with fail
    refine (HK.out.dright w H.out HV.out HA.out HWF.out HM.out HR.out.1 HR.out.2 HI.out).mono ?_
    rintro e w1 ⟨F', rd', hal, h2, h3, hq⟩
    obtain ⟨x, y, rfl⟩ := HP.out hq
    have HQ : Hid (RotRes I p A rd F held 3 i w (.returned (.tuple #[.int .u32 x, .int .i64 y])) w1) := ⟨F', rd', hal, h2, h3, hq⟩
    clear h2 h3 hq hal
    go_wp2_with fail
    go_ret2
    exact HQ.out
end Go.Proofs.Ytkhfofpbmnapjaa
