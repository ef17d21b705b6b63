/- The client of layer 5's statements reads nodes: boxes beside its arena. -/
import Derived.Test.YtnmookemeibioaaPlay1
import Derived.Test.YtnmookemeibioaaArOk4
import Derived.Test.YtnmookemeibioaaRefArX
set_option linter.unusedVariables false
namespace Go.Proofs.Ytnmookemeibioaa
open Go.RowKit
structure PB (I : AImpl) (B : Nat) (w0 w : World) (q : Nat) (p x : Value) (A : Ar) (rd : Int) (l : List Nat) (D : List (Nat × Nd)) : Prop where
  prog : ∃ F, I.Is w p A rd F ∧ (∀ k, F k → B ≤ k) ∧ ¬ F q ∧ (∀ k, x.ownBlock = some k → ¬ F k) ∧ ∀ d ∈ D, ¬ F d.1
  boxes : ∀ d ∈ D, w.heap[d.1]? = some (.cells (ndA d.2) 50 (0, 0)) ∧ B ≤ d.1 ∧ d.1 ≠ q ∧ x.ownBlock ≠ some d.1
  tc : TC I B w0 w q p x A rd (hof l) l
section
variable {I : AImpl} {B q : Nat} {w0 w w' : World} {p x : Value} {A : Ar} {rd : Int} {l : List Nat} {D D' : List (Nat × Nd)}
theorem pb_start (h : TC I B w0 w q p x A rd (hof l) l) : PB I B w0 w q p x A rd l [] := by
  obtain ⟨F, h1, h2, h3, h4⟩ := h.has
  exact ⟨⟨F, h1, h2, h3, h4, fun d hd => (by cases hd)⟩, fun d hd => (by cases hd), h⟩
theorem PB.lt (h : PB I B w0 w q p x A rd l D) {d : Nat × Nd} (hd : d ∈ D) : d.1 < w.heap.size := (Array.getElem?_eq_some_iff.1 (h.boxes d hd).1).1
theorem PB.calm (h : PB I B w0 w q p x A rd l D) (hb : Below w.heap.size w w') : PB I B w0 w' q p x A rd l D := by
  obtain ⟨F, h1, h2, h3, h4, h5⟩ := h.prog
  exact ⟨⟨F, I.below h1 hb, h2, h3, h4, h5⟩, fun d hd => ⟨(hb.block d.1 (h.lt hd)).trans (h.boxes d hd).1, (h.boxes d hd).2⟩, h.tc.calm hb⟩
theorem PB.alloc (h : PB I B w0 w q p x A rd l D) (X : Nd) : PB I B w0 (w.alloc (Obj.cells (ndA X) 50)) q p x A rd l (D ++ [(w.heap.size, X)]) := by
  have hb := below_new5 w (Obj.cells (ndA X) 50)
  obtain ⟨F, h1, h2, h3, h4, h5⟩ := h.prog
  have h6 := h.calm hb
  refine ⟨⟨F, I.below h1 hb, h2, h3, h4, fun d hd => ?_⟩, fun d hd => ?_, h6.tc⟩
  · rcases List.mem_append.1 hd with hd | hd
    · exact h5 d hd
    · simp at hd
      subst hd
      intro hf
      have := I.dom h1 _ hf
      omega
  · rcases List.mem_append.1 hd with hd | hd
    · exact h6.boxes d hd
    · simp at hd
      subst hd
      exact ⟨heap_alloc_new _ _, h.tc.hB, by have := h.tc.lt; simp; omega, fun e => by have := (row_lt h.tc.row _ e).2; omega⟩
theorem PB.put (h : PB I B w0 w q p x A rd l D) {g : Nat} {X Y : Nd} (hg : (g, X) ∈ D) (hw : w'.heap[g]? = some (.cells (ndA Y) 50 (0, 0))) (hal : Alters (fun k => k = g) (fun k => k = g) w w') (hD : ∀ d ∈ D', d = (g, Y) ∨ (d ∈ D ∧ d.1 ≠ g)) : PB I B w0 w' q p x A rd l D' := by
  obtain ⟨F, h1, h2, h3, h4, h5⟩ := h.prog
  have hgb := h.boxes _ hg
  have hne : ∀ k, k < w.heap.size → k ≠ g → w'.heap[k]? = w.heap[k]? := fun k hk hn => hal.block k hk hn
  have hI : I.Is w' p A rd F := I.keep h1 fun k hk => hne k (I.dom h1 k hk) (fun e => h5 _ hg (e ▸ hk))
  refine ⟨⟨F, hI, h2, h3, h4, fun d hd => ?_⟩, fun d hd => ?_, ?_⟩
  · rcases hD d hd with rfl | hd
    · exact h5 (g, X) hg
    · exact h5 d hd.1
  · rcases hD d hd with rfl | hd
    · exact ⟨hw, hgb.2⟩
    · exact ⟨(hne d.1 (h.lt hd.1) hd.2).trans (h.boxes d hd.1).1, (h.boxes d hd.1).2⟩
  · exact ⟨⟨F, hI, h2, h3, h4⟩, h.tc.inv, h.tc.agg, hal.below h.tc.below h.tc.hB (fun k hk => by rw [hk]; exact hgb.2.1), Nat.le_trans h.tc.hB hal.size, h.tc.hq, (hne q h.tc.lt hgb.2.2.1.symm).trans h.tc.box, row_keep h.tc.row fun k hk => hne k (row_lt h.tc.row k hk).2 (fun e => hgb.2.2.2 (by rw [hk, e])), h.tc.qx⟩
theorem PB.less (h : PB I B w0 w q p x A rd l D) (hD : ∀ d ∈ D', d ∈ D) : PB I B w0 w q p x A rd l D' := by
  obtain ⟨F, h1, h2, h3, h4, h5⟩ := h.prog
  exact ⟨⟨F, h1, h2, h3, h4, fun d hd => h5 d (hD d hd)⟩, fun d hd => h.boxes d (hD d hd), h.tc⟩
theorem PB.step {rd' : Int} {F F' : Nat → Prop} (h : PB I B w0 w q p x A rd l D) (h2 : ∀ k, F k → B ≤ k) (h3 : ¬ F q) (h4 : ∀ k, x.ownBlock = some k → ¬ F k) (h5 : ∀ d ∈ D, ¬ F d.1) (ha : Alters F F' w w') (hs : I.Is w' p A rd' F') : PB I B w0 w' q p x A rd' l D := by
  have h6 := h.tc.step h2 h3 h4 ha hs h.tc.inv h.tc.agg
  have h1 := ha.apart (G := fun k => k = q ∨ x.ownBlock = some k ∨ ∃ d ∈ D, d.1 = k) (fun k hk => by
    rcases hk with rfl | hk | ⟨d, hd, rfl⟩
    · exact ⟨h.tc.lt, h3⟩
    · exact ⟨(row_lt h.tc.row k hk).2, h4 k hk⟩
    · exact ⟨h.lt hd, h5 d hd⟩)
  exact ⟨⟨F', hs, ha.from h.tc.hB h2, (h1 q (.inl rfl)).2, fun k hk => (h1 k (.inr (.inl hk))).2, fun d hd => (h1 d.1 (.inr (.inr ⟨d, hd, rfl⟩))).2⟩, fun d hd => ⟨(ha.block d.1 (h.lt hd) (h5 d hd)).trans (h.boxes d hd).1, (h.boxes d hd).2⟩, h6⟩
/-- what a call left: its answer, and the boxes as they were -/
def BRes (I : AImpl) (B : Nat) (w0 w : World) (q : Nat) (p x : Value) (A : Ar) (rd : Int) (l : List Nat) (D : List (Nat × Nd)) (v : Value) (e : Ending) (w' : World) : Prop :=
  ∃ rd', e = .returned v ∧ rd ≤ rd' ∧ rd' ≤ rd + 1 ∧ PB I B w0 w' q p x A rd' l D
theorem pb_node (h : PB I B w0 w q p x A rd l D) {i : Nat} (hi : i < 4294967296) (h0 : 0 ≤ rd) (h1 : rd < 4611686018427387904) :
    Calls Try.prog 27 #[p, .int .u32 (i : Int)] w (BRes I B w0 w q p x A rd l D (.tuple #[.agg (ndA (A.nd i)), .bool (A.σ.on i)])) := by
  obtain ⟨F, g1, g2, g3, g4, g5⟩ := h.prog
  refine (I.node p A rd F i w g1 h0 h1 hi).mono ?_
  rintro e w1 ⟨F', hal, h3, h4⟩
  cases hon : A.σ.on i with
  | false =>
    obtain ⟨rfl, h5⟩ := h3 hon
    rw [(h.tc.inv.off i hon).2]
    exact ⟨rd, rfl, Int.le_refl _, by omega, h.step g2 g3 g4 g5 hal h5⟩
  | true =>
    obtain ⟨rfl, h5⟩ := h4 hon
    exact ⟨rd + 1, rfl, by omega, Int.le_refl _, h.step g2 g3 g4 g5 hal h5⟩
theorem pb_size (h : PB I B w0 w q p x A rd l D) {i : Nat} (hi : i < 4294967296) (h0 : 0 ≤ rd) (h1 : rd < 4611686018427387904) :
    Calls Try.prog 29 #[p, .int .u32 (i : Int)] w (BRes I B w0 w q p x A rd l D (.int .i64 (A.nd i).size)) := by
  obtain ⟨F, g1, g2, g3, g4, g5⟩ := h.prog
  refine (I.size p A rd F i w g1 h0 h1 hi).mono ?_
  rintro e w1 ⟨F', hal, h3, h4⟩
  cases hon : A.σ.on i with
  | false =>
    obtain ⟨rfl, h5⟩ := h3 hon
    rw [(h.tc.inv.off i hon).2]
    exact ⟨rd, rfl, Int.le_refl _, by omega, h.step g2 g3 g4 g5 hal h5⟩
  | true =>
    obtain ⟨rfl, h5⟩ := h4 hon
    exact ⟨rd + 1, rfl, by omega, Int.le_refl _, h.step g2 g3 g4 g5 hal h5⟩
theorem alters_setRow {g : Nat} (w : World) (cs : Array Value) : Alters (fun k => k = g) (fun k => k = g) w (w.setRow g cs) :=
  ⟨rfl, rfl, rfl, by simp [World.setRow], fun k _ hk => setRow_other _ _ _ _ hk, fun k hk => .inl hk⟩
set_option maxHeartbeats 2000000 in
set_option maxRecDepth 100000 in
theorem pb_below (h : PB I B w0 w q p x A rd l D) {i : Nat} (hi : i < 4294967296) (h0 : 0 ≤ rd) (h1 : rd < 4611686018427387904) :
    Calls Try.prog 39 #[.pointer (some ⟨q, 0, none⟩), .int .u32 (i : Int)] w (BRes I B w0 w q p x A rd l D (.agg (ndA (A.nd i)))) := by
  have HU : Hid _ := Lib.hid Try.underlying50
  have hin : (Try.prog.info? 50).map (·.size) = some 8 := by kernel_rfl
  have HIN := Lib.hid hin
  have H1 := Lib.hid (h.alloc Nd.zero)
  have HH := Lib.hid h
  obtain ⟨a, pv⟩ : ∃ v, v = p := ⟨p, rfl⟩
  clear h hin pv
  go_enter Try.func39, Try.ntmps39
  go_upto_region 1 with fail
  rw [show #[Value.int .i64 0, .int .i64 0, .int .u32 0, .int .u32 0, .int .i64 0, .int .i64 0, .int .i64 0, .int .i64 0] = ndA Nd.zero from rfl]
  generalize w.alloc (Obj.cells (ndA Nd.zero) 50) = w1 at H1 ⊢
  obtain ⟨g, hg⟩ : ∃ g, w.heap.size = g := ⟨_, rfl⟩
  rw [hg] at H1 ⊢
  have HG := Lib.hid hg
  clear hg
  obtain ⟨c0, c1⟩ := H1.out.tc.cells
  go_wp2_with fail
  refine (pb_node H1.out hi h0 h1).mono ?_
  rintro e w2 ⟨rd', rfl, hr1, hr2, h2⟩
  have H3 := Lib.hid (h2.alloc (A.nd i))
  have HR := Lib.hid (And.intro hr1 hr2)
  have HX2 := Lib.hid (h2.boxes (g, Nd.zero) (by simp)).1
  have hgl := h2.lt (d := (g, Nd.zero)) (by simp)
  have HGL : Hid (g < w2.heap.size) := hgl
  clear h2 hr1 hr2 c0 c1 hgl
  unfold ndA
  go_upto_region 2 with fail
  rw [show #[Value.int .i64 (A.nd i).key, .int .i64 (A.nd i).val, .int .u32 ((A.nd i).left : Int), .int .u32 ((A.nd i).right : Int), .int .i64 (A.nd i).size, .int .i64 (A.nd i).sum, .int .i64 (A.nd i).mn, .int .i64 (A.nd i).mx] = ndA (A.nd i) from rfl]
  generalize w2.alloc (Obj.cells (ndA (A.nd i)) 50) = w3 at H3 ⊢
  generalize w2.heap.size = g3 at H3 HGL ⊢
  have HP3 := Lib.hid (H3.out.boxes (g, Nd.zero) (by simp)).1
  have HQ3 := Lib.hid (H3.out.boxes (g3, A.nd i) (by simp)).1
  obtain ⟨x0, x1, x2, x3, x4, x5, x6, x7⟩ := row8 HQ3.out
  go_wp2_with (refine wpList_store_row rfl 50 (.tmp 4) (.tmp 16) rfl g (ndA (A.nd i)) rfl rfl 50 _ HP3.out HIN.out rfl (nd_ones _) ?_)
  refine bodyPost_ret (results_cell_row rfl _ _ g 50 (ndA (A.nd i)) (0, 0) _ rfl (setRow_heap _ _ _ _ _ _ HP3.out) HU.out rfl HIN.out) rfl ?_
  refine ⟨rd', rfl, HR.out.1, HR.out.2, H3.out.put (g := g) (X := Nd.zero) (Y := A.nd i) (by simp) (setRow_heap _ _ _ _ _ _ HP3.out) (alters_setRow w3 _) (fun d hd => ?_)⟩
  refine .inr ⟨by simp [hd], ?_⟩
  have h5 := HH.out.lt hd
  have h6 := HG.out
  omega
end
end Go.Proofs.Ytnmookemeibioaa
