/- Of the proofs of JoinJoins, JoinConcatenates, JoinSplits: JnOk1, JnOk2. -/
import Derived.Test.YtehaffcjoafkcaaGreatK7
import Derived.Test.YtehaffcjoafkcaaGreatK5
import Derived.Test.YtehaffcjoafkcaaGreatK1
import Derived.Test.YtehaffcjoafkcaaGreatK2
import Derived.Test.YtehaffcjoafkcaaGreatK6
import Derived.Test.YtehaffcjoafkcaaGreatK4
import Derived.Test.YtehaffcjoafkcaaGreatK3
import Derived.Test.YtehaffcjoafkcaaGreatK8
set_option linter.unusedVariables false
set_option linter.unusedSimpArgs false
namespace Go.Proofs.YtehaffcjoafkcaaGreat
open Go.RowKit
set_option maxRecDepth 100000 in
theorem entryJ_any (x : Nd) (w : World) : Calls Tryz.prog 99 #[.agg (ndRow x)] w (Calm w (.agg #[.int .i64 x.key, .int .i64 x.val])) := by
  have hin : (Tryz.prog.info? 25).map (·.size) = some 2 := by kernel_rfl
  have HINF := Lib.hid hin
  have HU : Hid _ := Lib.hid Tryz.underlying25
  have hb := below_new7 w (Obj.cells (ndRow x) 49)
  have hbx := heap_alloc_new w (Obj.cells (ndRow x) 49)
  clear hin
  go_enter Tryz.func99, Tryz.ntmps99
  unfold ndRow
  go_upto_region 1 with fail
  rw [show #[Value.int .i64 x.key, .int .i64 x.val, .int .u32 (x.left : Int), .int .u32 (x.right : Int), .int .i64 x.size, .int .i64 x.sum, .int .i64 x.mn, .int .i64 x.mx] = ndRow x from rfl]
  have hsz : w.heap.size < (w.alloc (Obj.cells (ndRow x) 49)).heap.size := by simp
  have hs1 : (w.alloc (Obj.cells (ndRow x) 49)).heap.size = w.heap.size + 1 := World.size_alloc _ _
  generalize w.alloc (Obj.cells (ndRow x) 49) = w2 at hb hbx hsz hs1 ⊢
  generalize hg : w.heap.size = g at hb hbx hsz hs1 ⊢
  have hb3 := below_new7 w2 (Obj.cells #[.int .i64 0, .int .i64 0] 25)
  have hr3 := heap_alloc_new w2 (Obj.cells #[.int .i64 0, .int .i64 0] 25)
  have hx3 := (hb3.block g hsz).trans hbx
  have hb4 := hb.trans (hb3.mono (Nat.le_of_lt hsz))
  (try rw [World.size_alloc])
  generalize w2.alloc (Obj.cells #[.int .i64 0, .int .i64 0] 25) = w3 at hr3 hx3 hb4 ⊢
  clear hb3
  (try rw [hg])
  rw [hs1] at hr3
  generalize hq : g + 1 = q at hr3 ⊢
  have x0 : w3.cell? ⟨g, 0, none⟩ = some (.int .i64 x.key) := by rw [cell_of_row _ _ _ _ _ _ hx3]; rfl
  have x1 : w3.cell? ⟨g, 1, none⟩ = some (.int .i64 x.val) := by rw [cell_of_row _ _ _ _ _ _ hx3]; rfl
  obtain ⟨r0, r1⟩ := two_ofE hr3
  have f0 := frozen_of_row _ _ 0 _ _ hr3
  have f1 := frozen_of_row _ _ 1 _ _ hr3
  have hgq : g ≠ q := by omega
  have HFIN : Hid (Below g w ((w3.setCell ⟨q, 0, none⟩ (.int .i64 x.key)).setCell ⟨q, 1, none⟩ (.int .i64 x.val)) ∧ ((w3.setCell ⟨q, 0, none⟩ (.int .i64 x.key)).setCell ⟨q, 1, none⟩ (.int .i64 x.val)).heap[q]? = some (.cells #[.int .i64 x.key, .int .i64 x.val] 25 (0, 0))) :=
    ⟨(hb4.setCell (by show g ≤ q; omega) _).setCell (by show g ≤ q; omega) _, by rw [heap_setCell_same _ q 1 _ _ _ (heap_setCell_same w3 q 0 _ _ _ hr3)]; rfl⟩
  have HGG := Lib.hid hg
  clear hb hbx hsz hs1 hr3 hx3 hb4 hg hq
  go_wp2_with fail
  refine bodyPost_ret (results_cell_row rfl _ _ q 25 #[.int .i64 x.key, .int .i64 x.val] (0, 0) _ rfl HFIN.out.2 HU.out rfl HINF.out) rfl ?_
  exact ⟨rfl, by rw [HGG.out]; exact HFIN.out.1⟩
set_option maxHeartbeats 4000000 in
set_option maxRecDepth 100000 in
theorem isBelow_any (I : AImpl) {p : Value} {A : Ar} {rd : Int} {F : Nat → Prop} {c : Nat} (X : Nd) (w : World) (hI : I.Is w p A rd F) (hok : A.σ.Ok) (hx : A.Idx c) (hc : c < 4294967296) (hb : c ≠ 0 → 0 < A.sz c ∧ A.sz c < X.size) (h0 : 0 ≤ rd) (h1 : rd ≤ 4398046511104) :
    Calls Tryz.prog 97 #[p, .int .u32 (c : Int), .agg #[Value.int .i64 X.key, .int .i64 X.val, .int .u32 (X.left : Int), .int .u32 (X.right : Int), .int .i64 X.size, .int .i64 X.sum, .int .i64 X.mn, .int .i64 X.mx]] w (ReadsTo I p A rd F 1 (.bool true) w) := by
  obtain ⟨pa, rfl⟩ := I.ptr hI
  have hs0 := (Ins.start hI).box #[Value.int .i64 X.key, .int .i64 X.val, .int .u32 (X.left : Int), .int .u32 (X.right : Int), .int .i64 X.size, .int .i64 X.sum, .int .i64 X.mn, .int .i64 X.mx] 49
  have HOK := Lib.hid hok
  have HX := Lib.hid hx
  have HC := Lib.hid hc
  have HB := Lib.hid hb
  have HRD : Hid (0 ≤ rd ∧ rd ≤ 4398046511104) := ⟨h0, h1⟩
  clear hI hok hx hc hb h0 h1
  go_enter Tryz.func97, Tryz.ntmps97
  go_upto_region 1 with fail
  generalize w.alloc (Obj.cells #[Value.int .i64 X.key, .int .i64 X.val, .int .u32 (X.left : Int), .int .u32 (X.right : Int), .int .i64 X.size, .int .i64 X.sum, .int .i64 X.mn, .int .i64 X.mx] 49) = w1 at hs0 ⊢
  generalize w.heap.size = g at hs0 ⊢
  have HS0 := Lib.hid hs0
  clear hs0
  go_wp2_with fail
  refine (HS0.out.sz HRD.out.1 HRD.out.2 HC.out HX.out HOK.out).mono ?_
  rintro e w2 ⟨rfl, hs⟩
  have HS := Lib.hid hs
  clear hs HS0
  obtain ⟨⟨x0, x1, x2, x3, x4, x5, x6, x7⟩, -⟩ := HS.out.row8 (g := g) (X := X) (by simp [ndRow])
  by_cases hc0 : c = 0
  · subst hc0
    go_wp2_with fail
    go_ret
    obtain ⟨F', hal, hI⟩ := HS.out.ends
    exact ⟨F', rd, rfl, hal, by simpa using hI, by omega, by omega⟩
  · obtain ⟨b1, b2⟩ := HB.out hc0
    obtain ⟨z, hz⟩ : ∃ z, A.sz c = z := ⟨_, rfl⟩
    rw [hz] at b1 b2 ⊢
    have d0 : decide ((c : Int) = 0) = false := decide_eq_false (by omega)
    have d1 : decide (0 < z) = true := decide_eq_true b1
    have d2 : decide (z < X.size) = true := decide_eq_true b2
    have hc1 : ¬ (c : Int) = 0 := by omega
    go_wp2_with fail
    go_ret
    obtain ⟨F', hal, hI⟩ := HS.out.ends
    rw [if_neg hc0] at hI
    exact ⟨F', rd + 1, rfl, hal, hI, by omega, by omega⟩
set_option maxHeartbeats 4000000 in
set_option maxRecDepth 100000 in
theorem sgl_any (K : ShNum) {l a b : Int} (w : World) (hl : 0 ≤ l ∧ l ≤ 2147483647) (ha : 0 ≤ a ∧ a ≤ 2147483647) (hb : 0 ≤ b ∧ b ≤ 2147483647) :
    Calls Tryz.prog 110 #[.int .i64 l, .int .i64 a, .int .i64 b] w (Calm w (.bool (sgl l a b))) := by
  have HK := Lib.hid K
  have HR : Hid ((0 ≤ l ∧ l ≤ 2147483647) ∧ (0 ≤ a ∧ a ≤ 2147483647) ∧ (0 ≤ b ∧ b ≤ 2147483647)) := ⟨hl, ha, hb⟩
  have hw1 : IntKind.i64.wrap (l + 1) = l + 1 := by rw [IntKind.wrap_i64]; omega
  have hw2 : IntKind.i64.wrap (l + 1 + a) = l + 1 + a := by rw [IntKind.wrap_i64]; omega
  clear K hl ha hb
  go_enter Tryz.func110, Tryz.ntmps110
  go_wp2_with fail
  refine (HK.out.balanced l a w (by have := HR.out; omega) (by have := HR.out; omega) (by have := HR.out; omega) (by have := HR.out; omega)).mono ?_
  rintro e w1 ⟨rfl, hb1⟩
  have HB1 := Lib.hid hb1
  clear hb1
  cases hq : Proofs.YtehaffcjoafkcaaGreat.bal l a
  · have hs : sgl l a b = false := by unfold sgl; rw [hq]; rfl
    have HSG := Lib.hid hs
    clear hs
    go_wp2_with fail
    go_ret
    exact ⟨by rw [HSG.out]; rfl, HB1.out⟩
  · have hs : sgl l a b = Proofs.YtehaffcjoafkcaaGreat.bal (l + 1 + a) b := by unfold sgl; rw [hq]; rfl
    have HSG := Lib.hid hs
    clear hs
    go_wp2_with fail
    refine (HK.out.balanced (l + 1 + a) b w1 (by have := HR.out; omega) (by have := HR.out; omega) (by have := HR.out; omega) (by have := HR.out; omega)).mono ?_
    rintro e w2 ⟨rfl, hb2⟩
    have HB2 := Lib.hid (HB1.out.trans (hb2.mono HB1.out.size))
    clear hb2
    go_wp2_with fail
    go_ret
    exact ⟨by rw [HSG.out]; rfl, HB2.out⟩
theorem sz_rng {A : Ar} (ha : A.Agg) {x : Nat} (hx : A.Idx x) : 0 ≤ A.sz x ∧ A.sz x ≤ 2147483647 := by
  refine ⟨sz_nonneg ha hx, ?_⟩
  unfold Ar.sz
  by_cases h0 : x = 0
  · rw [if_pos h0]; decide
  · rw [if_neg h0]; exact (ha.size x (hx.resolve_left h0)).2
theorem sz_pos {A : Ar} (ha : A.Agg) {held : Nat → Nat} (hv : A.Inv [] held) {x : Nat} (hx : A.Idx x) (h0 : x ≠ 0) : 0 < A.sz x := by
  have hon := hx.resolve_left h0
  have h1 := sz_child ha hon
  have c := hv.child x hon
  have z1 := sz_nonneg ha c.1
  have z2 := sz_nonneg ha c.2
  unfold Ar.sz
  rw [if_neg h0]
  omega
/-- a rotation that has its form and its slots -/
def TurnQ (A : Ar) (rd bd : Int) (held : Nat → Nat) (k i : Nat) (en : Ending) (B : Ar) (rd' : Int) : Prop :=
  rd ≤ rd' ∧ rd' ≤ rd + bd ∧ ∃ j : Nat, en = .returned (.tuple #[.int .u32 (j : Int), .int .i64 0]) ∧ Turned A held B j (rneed k) ∧ RNodes A B k i j
theorem RotSpec.ok {I : AImpl} {f : FuncId} {k : Nat} (hf : RotSpec I f k) {p : Value} {A : Ar} {rd : Int} {F : Nat → Prop} {held : Nat → Nat} {i : Nat} {w : World} (hI : I.Is w p A rd F) (hv : A.Inv [] held) (ha : A.Agg) (hwf : WfNear A i) (hm : ∀ j, held j ≤ 1048500) (h0 : 0 ≤ rd) (h1 : rd ≤ 2199023255552) (hi : i < 4294967296) (hform : rform A k i = true) (hn : rneed k ≤ A.σ.free.length) :
    Calls Tryz.prog f #[p, .int .u32 (i : Int)] w (Mut I p F (TurnQ A rd 4 held k i) w) := by
  refine (hf w hI hv ha hwf hm h0 h1 hi).mono ?_
  rintro e w1 ⟨F', rd', hal, hr0, hr1, hq⟩
  rcases hq with ⟨q1, -⟩ | ⟨-, q2, -⟩ | ⟨-, -, B, j, q4, q5, q6, q7⟩
  · rw [hform] at q1; cases q1
  · omega
  · exact ⟨F', B, rd', hal, q7, hr0, hr1, j, q6, q4, q5⟩
set_option maxHeartbeats 8000000 in
set_option maxRecDepth 100000 in
theorem readJ_any (I : AImpl) {p : Value} {A : Ar} {rd : Int} {F : Nat → Prop} {held : Nat → Nat} {i : Nat} {X : Nd} (w : World) (hI : I.Is w p A rd F) (hv : A.Inv [] held) (ha : A.Agg) (hon : A.σ.on i = true) (hX : A.nd i = X) (h0 : 0 ≤ rd) (h1 : rd ≤ 4398046511000) :
    Calls Tryz.prog 74 #[p, .int .u32 (i : Int)] w (ReadsTo I p A rd F 3 (.tuple #[.agg #[Value.int .i64 X.key, .int .i64 X.val, .int .u32 (X.left : Int), .int .u32 (X.right : Int), .int .i64 X.size, .int .i64 X.sum, .int .i64 X.mn, .int .i64 X.mx], .int .i64 0]) w) := by
  obtain ⟨pa, rfl⟩ := I.ptr hI
  have hin : (Tryz.prog.info? 49).map (·.size) = some 8 := by kernel_rfl
  have HINF := Lib.hid hin
  have HUN : Hid _ := Lib.hid Tryz.underlying49
  have hs0 := (Ins.start hI).box #[.int .i64 0, .int .i64 0, .int .u32 0, .int .u32 0, .int .i64 0, .int .i64 0, .int .i64 0, .int .i64 0] 49
  have HRD : Hid (0 ≤ rd ∧ rd ≤ 4398046511000) := ⟨h0, h1⟩
  have HV := Lib.hid hv
  have HON := Lib.hid hon
  have HI : Hid (i < 4294967296) := idx_lt32 hv (.inr hon)
  have HX := Lib.hid hX
  have HC : Hid (A.Idx X.left ∧ A.Idx X.right) := by have h := hv.child i hon; rw [hX] at h; exact h
  have HB : Hid ((X.left ≠ 0 → 0 < A.sz X.left ∧ A.sz X.left < X.size) ∧ (X.right ≠ 0 → 0 < A.sz X.right ∧ A.sz X.right < X.size)) := by
    have h := sz_child ha hon
    have c := hv.child i hon
    have z1 := sz_nonneg ha c.1
    have z2 := sz_nonneg ha c.2
    rw [hX] at h c z1 z2
    exact ⟨fun q => ⟨sz_pos ha hv c.1 q, by omega⟩, fun q => ⟨sz_pos ha hv c.2 q, by omega⟩⟩
  clear hI hv ha hon hX h0 h1 hin
  go_enter Tryz.func74, Tryz.ntmps74
  go_upto_region 1 with fail
  generalize w.alloc (Obj.cells #[.int .i64 0, .int .i64 0, .int .u32 0, .int .u32 0, .int .i64 0, .int .i64 0, .int .i64 0, .int .i64 0] 49) = w1 at hs0 ⊢
  generalize w.heap.size = g0 at hs0 ⊢
  have HS0 := Lib.hid hs0
  clear hs0
  go_wp2_with fail
  refine (HS0.out.node HRD.out.1 (by have := HRD.out; omega) HI.out HON.out).mono ?_
  rintro e w2 ⟨rfl, hs⟩
  rw [HX.out]
  unfold ndRow
  have hs1 := hs.box #[Value.int .i64 X.key, .int .i64 X.val, .int .u32 (X.left : Int), .int .u32 (X.right : Int), .int .i64 X.size, .int .i64 X.sum, .int .i64 X.mn, .int .i64 X.mx] 49
  clear hs HS0
  go_upto_region 2 with fail
  generalize w2.alloc (Obj.cells #[Value.int .i64 X.key, .int .i64 X.val, .int .u32 (X.left : Int), .int .u32 (X.right : Int), .int .i64 X.size, .int .i64 X.sum, .int .i64 X.mn, .int .i64 X.mx] 49) = w3 at hs1 ⊢
  generalize w2.heap.size = g at hs1 ⊢
  have HS1 := Lib.hid hs1
  clear hs1
  obtain ⟨⟨x0, x1, x2, x3, x4, x5, x6, x7⟩, -⟩ := HS1.out.row8 (g := g) (X := X) (by simp [ndRow])
  go_wp2_with fail
  refine (HS1.out.call fun F1 hI1 => isBelow_any I X w3 hI1 HV.out.ok HC.out.1 (idx_lt32 HV.out HC.out.1) HB.out.1 (by have := HRD.out; omega) (by have := HRD.out; omega)).mono ?_
  rintro e w4 ⟨rfl, rd1, hs, r1, r2⟩
  have HS2 := Lib.hid hs
  have HR1 : Hid (rd ≤ rd1 ∧ rd1 ≤ rd + 2) := ⟨by omega, by omega⟩
  clear hs r1 r2 HS1 x0 x1 x2 x3 x4 x5 x6 x7
  obtain ⟨⟨x0, x1, x2, x3, x4, x5, x6, x7⟩, -⟩ := HS2.out.row8 (g := g) (X := X) (by simp [ndRow])
  go_wp2_with fail
  refine (HS2.out.call fun F1 hI1 => isBelow_any I X w4 hI1 HV.out.ok HC.out.2 (idx_lt32 HV.out HC.out.2) HB.out.2 (by have := HRD.out; have := HR1.out; omega) (by have := HRD.out; have := HR1.out; omega)).mono ?_
  rintro e w5 ⟨rfl, rd2, hs, r1, r2⟩
  have HR2 : Hid (rd ≤ rd2 ∧ rd2 ≤ rd + 3) := ⟨by have := HR1.out; omega, by have := HR1.out; omega⟩
  have HS3 := Lib.hid hs
  clear hs r1 r2 HS2 x0 x1 x2 x3 x4 x5 x6 x7
  obtain ⟨⟨x0, x1, x2, x3, x4, x5, x6, x7⟩, -⟩ := HS3.out.row8 (g := g) (X := X) (by simp [ndRow])
  obtain ⟨⟨y0, y1, y2, y3, y4, y5, y6, y7⟩, f0, f1, f2, f3, f4, f5, f6, f7⟩ := HS3.out.row8 (g := g0) (X := Nd.zero) (by simp [ndRow, Nd.zero])
  have hne : ¬ g = g0 := (List.pairwise_cons.1 HS3.out.bb).1 (g0, Obj.cells #[.int .i64 0, .int .i64 0, .int .u32 0, .int .u32 0, .int .i64 0, .int .i64 0, .int .i64 0, .int .i64 0] 49 (0, 0)) (by simp)
  have hne2 : ¬ g0 = g := fun e => hne e.symm
  have hp := Ins.put (g := g0) (X := Nd.zero) (Y := X) (bs := [(g, Obj.cells #[Value.int .i64 X.key, .int .i64 X.val, .int .u32 (X.left : Int), .int .u32 (X.right : Int), .int .i64 X.size, .int .i64 X.sum, .int .i64 X.mn, .int .i64 X.mx] 49 (0, 0))]) (HS3.out.perm (List.Perm.swap _ _ _))
  have HE : Hid ((∃ F', Alters F F' w (put8 w5 g0 X) ∧ I.Is (put8 w5 g0 X) (.pointer (some pa)) A rd2 F') ∧ (put8 w5 g0 X).heap[g0]? = some (Obj.cells #[Value.int .i64 X.key, .int .i64 X.val, .int .u32 (X.left : Int), .int .u32 (X.right : Int), .int .i64 X.size, .int .i64 X.sum, .int .i64 X.mn, .int .i64 X.mx] 49 (0, 0))) := ⟨hp.ends, (hp.boxes _ (List.Mem.head _)).2⟩
  clear hp
  go_wp2_with fail
  refine bodyPost_ret (results_row_tmp rfl _ _ g0 49 #[Value.int .i64 X.key, .int .i64 X.val, .int .u32 (X.left : Int), .int .u32 (X.right : Int), .int .i64 X.size, .int .i64 X.sum, .int .i64 X.mn, .int .i64 X.mx] (0, 0) _ rfl HE.out.2 HUN.out rfl HINF.out) rfl ?_
  obtain ⟨F', hal, hI⟩ := HE.out.1
  exact ⟨F', rd2, rfl, hal, hI, HR2.out.1, HR2.out.2⟩
set_option maxHeartbeats 8000000 in
set_option maxRecDepth 100000 in
theorem rotateLeft_any (I : AImpl) (K : RotImpl I) (KN : ShNum) {p : Value} {A : Ar} {rd : Int} {F : Nat → Prop} {held : Nat → Nat} {i k : Nat} {l : Int} {X : Nd} {s : Bool} (w : World) (hI : I.Is w p A rd F) (hv : A.Inv [] held) (ha : A.Agg) (hwf : WfNear A i) (hm : ∀ j, held j ≤ 1048500) (h0 : 0 ≤ rd) (h1 : rd ≤ 2199023255000) (hi : i < 4294967296)
    (hx : A.Idx X.left ∧ A.Idx X.right) (hl : 0 ≤ l ∧ l ≤ 2147483647) (hs : sgl l (A.sz X.left) (A.sz X.right) = s) (hk : k = if s = true then 0 else 2) (hform : rform A k i = true) (hn : rneed k ≤ A.σ.free.length) :
    Calls Tryz.prog 107 #[p, .int .u32 (i : Int), .int .i64 l, .agg #[Value.int .i64 X.key, .int .i64 X.val, .int .u32 (X.left : Int), .int .u32 (X.right : Int), .int .i64 X.size, .int .i64 X.sum, .int .i64 X.mn, .int .i64 X.mx]] w (Mut I p F (TurnQ A rd 6 held k i) w) := by
  obtain ⟨pa, rfl⟩ := I.ptr hI
  have hs0 := (Ins.start hI).box #[Value.int .i64 X.key, .int .i64 X.val, .int .u32 (X.left : Int), .int .u32 (X.right : Int), .int .i64 X.size, .int .i64 X.sum, .int .i64 X.mn, .int .i64 X.mx] 49
  have HK := Lib.hid K
  have HKN := Lib.hid KN
  have HV := Lib.hid hv
  have HA := Lib.hid ha
  have HWF := Lib.hid hwf
  have HM := Lib.hid hm
  have HI := Lib.hid hi
  have HX := Lib.hid hx
  have HL := Lib.hid hl
  have HS := Lib.hid hs
  have HKK := Lib.hid hk
  have HFO := Lib.hid hform
  have HN := Lib.hid hn
  have HRD : Hid (0 ≤ rd ∧ rd ≤ 2199023255000) := ⟨h0, h1⟩
  clear hI hv ha hwf hm hi hx hl hs hk hform hn h0 h1 K KN
  go_enter Tryz.func107, Tryz.ntmps107
  go_upto_region 1 with fail
  generalize w.alloc (Obj.cells #[Value.int .i64 X.key, .int .i64 X.val, .int .u32 (X.left : Int), .int .u32 (X.right : Int), .int .i64 X.size, .int .i64 X.sum, .int .i64 X.mn, .int .i64 X.mx] 49) = w1 at hs0 ⊢
  generalize w.heap.size = g at hs0 ⊢
  have HCEL : Hid (∀ (wx : World) (rdx : Int), Ins I w F (.pointer (some pa)) A rdx [] [(g, Obj.cells #[Value.int .i64 X.key, .int .i64 X.val, .int .u32 (X.left : Int), .int .u32 (X.right : Int), .int .i64 X.size, .int .i64 X.sum, .int .i64 X.mn, .int .i64 X.mx] 49 (0, 0))] wx → wx.cell? ⟨g, 2, none⟩ = some (.int .u32 (X.left : Int)) ∧ wx.cell? ⟨g, 3, none⟩ = some (.int .u32 (X.right : Int))) := fun wx rdx hx => by
    obtain ⟨⟨x0, x1, x2, x3, x4, x5, x6, x7⟩, -⟩ := hx.row8 (g := g) (X := X) (by simp [ndRow])
    exact ⟨x2, x3⟩
  have hsd := hs0.calm (Below.refl _ _).drew
  clear hs0
  refine anyG_begin (S := (fun w' => w'.cell? ⟨g, 2, none⟩ = some (.int .u32 (X.left : Int)) ∧ w'.cell? ⟨g, 3, none⟩ = some (.int .u32 (X.right : Int)))) (z := 9999) (by kernel_rfl) (HCEL.out _ _ hsd) (fun hHeld => ?_)
  refine anyG_take (k := 0) (o := _) (v := ?_) (some 10) rfl (by kernel_rfl) (by kernel_rfl) (by kernel_rfl) (by kernel_rfl) (fun _ _ _ h => h) (Or.inl ⟨by rfl, ?_⟩) (by assumption) (by kernel_rfl) ?_
  rotate_left
  · intro w hSw; (try dsimp only at hSw); go_simp; try with_reducible rfl
  (try simp only [Act.put, List.setIfInBounds_toArray, List.set_cons_zero, List.set_cons_succ])
  refine anyG_take (k := 1) (o := _) (v := ?_) (some 11) rfl (by kernel_rfl) (by kernel_rfl) (by kernel_rfl) (by kernel_rfl) (fun _ _ _ h => h) (Or.inl ⟨by rfl, ?_⟩) (by assumption) (by kernel_rfl) ?_
  rotate_left
  · intro w hSw; (try dsimp only at hSw); go_simp; try with_reducible rfl
  (try simp only [Act.put, List.setIfInBounds_toArray, List.set_cons_zero, List.set_cons_succ])
  refine anyG_take (k := 2) (o := _) (v := ?_) (some 12) rfl (by kernel_rfl) (by kernel_rfl) (by kernel_rfl) (by kernel_rfl) (fun _ _ _ h => h) (Or.inl ⟨by rfl, ?_⟩) (by assumption) (by kernel_rfl) ?_
  rotate_left
  · intro w hSw; (try dsimp only at hSw); go_simp; try with_reducible rfl
  (try simp only [Act.put, List.setIfInBounds_toArray, List.set_cons_zero, List.set_cons_succ])
  refine anyG_take (k := 3) (o := _) (v := ?_) (some 13) rfl (by kernel_rfl) (by kernel_rfl) (by kernel_rfl) (by kernel_rfl) (fun _ _ _ h => h) (Or.inl ⟨by rfl, ?_⟩) (by assumption) (by kernel_rfl) ?_
  rotate_left
  · intro w hSw; (try dsimp only at hSw); go_simp; try with_reducible rfl
  (try simp only [Act.put, List.setIfInBounds_toArray, List.set_cons_zero, List.set_cons_succ])
  refine anyG_take (k := 5) (o := _) (v := ?_) (some 15) rfl (by kernel_rfl) (by kernel_rfl) (by kernel_rfl) (by kernel_rfl) (fun _ _ _ h => h) (Or.inl ⟨by rfl, ?_⟩) (by assumption) (by kernel_rfl) ?_
  rotate_left
  · intro w hSw; (try dsimp only at hSw); go_simp; try with_reducible rfl
  (try simp only [Act.put, List.setIfInBounds_toArray, List.set_cons_zero, List.set_cons_succ])
  refine anyG_take (k := 6) (o := _) (v := ?_) (some 16) rfl (by kernel_rfl) (by kernel_rfl) (by kernel_rfl) (by kernel_rfl) (fun _ _ _ h => h) (Or.inl ⟨by rfl, ?_⟩) (by assumption) (by kernel_rfl) ?_
  rotate_left
  · intro w hSw; (try dsimp only at hSw); go_simp; try with_reducible rfl
  (try simp only [Act.put, List.setIfInBounds_toArray, List.set_cons_zero, List.set_cons_succ])
  refine anyG_take (k := 7) (o := _) (v := ?_) (some 17) rfl (by kernel_rfl) (by kernel_rfl) (by kernel_rfl) (by kernel_rfl) (fun _ _ _ h => h) (Or.inl ⟨by rfl, ?_⟩) (by assumption) (by kernel_rfl) ?_
  rotate_left
  · intro w hSw; (try dsimp only at hSw); go_simp; try with_reducible rfl
  (try simp only [Act.put, List.setIfInBounds_toArray, List.set_cons_zero, List.set_cons_succ])
  refine anyG_one (k := 4) (o := _) (by kernel_rfl) rfl (fun KT hKT => ?_)
  go_simp
  go_at_call 36
  refine (hsd.sz (by have := HRD.out; (repeat' split) <;> omega) (by have := HRD.out; (repeat' split) <;> omega) (idx_lt32 HV.out HX.out.1) HX.out.1 HV.out.ok).mono ?_
  rintro eA wA ⟨rfl, hsA⟩
  try go_wp2_with fail
  refine hKT.out _ _ (HCEL.out _ _ hsA) (fun hHeld => ?_)
  clear hKT KT
  (try simp only [Act.put, List.setIfInBounds_toArray, List.set_cons_zero, List.set_cons_succ])
  refine anyG_one (k := 8) (o := _) (by kernel_rfl) rfl (fun KT hKT => ?_)
  go_simp
  go_at_call 36
  refine (hsA.sz (by have := HRD.out; (repeat' split) <;> omega) (by have := HRD.out; (repeat' split) <;> omega) (idx_lt32 HV.out HX.out.2) HX.out.2 HV.out.ok).mono ?_
  rintro eB wB ⟨rfl, hsB⟩
  try go_wp2_with fail
  refine hKT.out _ _ (HCEL.out _ _ hsB) (fun hHeld => ?_)
  clear hKT KT
  (try simp only [Act.put, List.setIfInBounds_toArray, List.set_cons_zero, List.set_cons_succ])
  refine anyG_one (k := 9) (o := _) (by kernel_rfl) rfl (fun KT hKT => ?_)
  go_simp
  go_at_call 110
  refine (sgl_any HKN.out _ HL.out (sz_rng HA.out HX.out.1) (sz_rng HA.out HX.out.2)).mono ?_
  rintro eC wC ⟨rfl, hbC⟩
  rw [HS.out]
  have hsC := hsB.calm hbC
  try go_wp2_with fail
  refine hKT.out _ _ (HCEL.out _ _ hsC) (fun hHeld => ?_)
  clear hKT KT
  (try simp only [Act.put, List.setIfInBounds_toArray, List.set_cons_zero, List.set_cons_succ])
  refine anyG_done (by kernel_rfl) ?_ _
  obtain ⟨rdc, hrc⟩ : ∃ r, (rd + if X.left = 0 then 0 else 1) + (if X.right = 0 then 0 else 1) = r := ⟨_, rfl⟩
  have HRC : Hid (rd ≤ rdc ∧ rdc ≤ rd + 2) := by
    show rd ≤ rdc ∧ rdc ≤ rd + 2
    rw [← hrc]
    (repeat' split) <;> omega
  rw [hrc] at hsC
  have HSC := Lib.hid hsC
  clear hrc hsC hsB hsA hsd hbC hHeld HCEL
  have HKC := HKK.out
  cases s
  · obtain rfl : k = 2 := HKC
    go_wp2_with fail
    refine (HSC.out.mut fun F1 hI1 => RotSpec.ok (k := 2) HK.out.dleft hI1 HV.out HA.out HWF.out HM.out (by have := HRD.out; have := HRC.out; omega) (by have := HRD.out; have := HRC.out; omega) HI.out HFO.out HN.out).mono ?_
    rintro e w4 ⟨B, rd4, ⟨r0, r1, j, rfl, ht, hr⟩, hs4⟩
    have HE : Hid (∃ F', Alters F F' w w4 ∧ I.Is w4 (.pointer (some pa)) B rd4 F') := hs4.ends
    have HQ : Hid (TurnQ A rd 6 held 2 i (.returned (.tuple #[.int .u32 (j : Int), .int .i64 0])) B rd4) := ⟨by have := HRC.out; omega, by have := HRC.out; omega, j, rfl, ht, hr⟩
    clear r0 r1 ht hr hs4
    go_wp2_with fail
    go_ret2
    obtain ⟨F', hal, hI⟩ := HE.out
    exact ⟨F', B, rd4, hal, hI, HQ.out⟩
  · obtain rfl : k = 0 := HKC
    go_wp2_with fail
    refine (HSC.out.mut fun F1 hI1 => RotSpec.ok (k := 0) HK.out.left hI1 HV.out HA.out HWF.out HM.out (by have := HRD.out; have := HRC.out; omega) (by have := HRD.out; have := HRC.out; omega) HI.out HFO.out HN.out).mono ?_
    rintro e w4 ⟨B, rd4, ⟨r0, r1, j, rfl, ht, hr⟩, hs4⟩
    have HE : Hid (∃ F', Alters F F' w w4 ∧ I.Is w4 (.pointer (some pa)) B rd4 F') := hs4.ends
    have HQ : Hid (TurnQ A rd 6 held 0 i (.returned (.tuple #[.int .u32 (j : Int), .int .i64 0])) B rd4) := ⟨by have := HRC.out; omega, by have := HRC.out; omega, j, rfl, ht, hr⟩
    clear r0 r1 ht hr hs4
    go_wp2_with fail
    go_ret2
    obtain ⟨F', hal, hI⟩ := HE.out
    exact ⟨F', B, rd4, hal, hI, HQ.out⟩
set_option maxHeartbeats 8000000 in
set_option maxRecDepth 100000 in
theorem rotateRight_any (I : AImpl) (K : RotImpl I) (KN : ShNum) {p : Value} {A : Ar} {rd : Int} {F : Nat → Prop} {held : Nat → Nat} {i k : Nat} {l : Int} {X : Nd} {s : Bool} (w : World) (hI : I.Is w p A rd F) (hv : A.Inv [] held) (ha : A.Agg) (hwf : WfNear A i) (hm : ∀ j, held j ≤ 1048500) (h0 : 0 ≤ rd) (h1 : rd ≤ 2199023255000) (hi : i < 4294967296)
    (hx : A.Idx X.left ∧ A.Idx X.right) (hl : 0 ≤ l ∧ l ≤ 2147483647) (hs : sgl l (A.sz X.right) (A.sz X.left) = s) (hk : k = if s = true then 1 else 3) (hform : rform A k i = true) (hn : rneed k ≤ A.σ.free.length) :
    Calls Tryz.prog 108 #[p, .int .u32 (i : Int), .agg #[Value.int .i64 X.key, .int .i64 X.val, .int .u32 (X.left : Int), .int .u32 (X.right : Int), .int .i64 X.size, .int .i64 X.sum, .int .i64 X.mn, .int .i64 X.mx], .int .i64 l] w (Mut I p F (TurnQ A rd 6 held k i) w) := by
  obtain ⟨pa, rfl⟩ := I.ptr hI
  have hs0 := (Ins.start hI).box #[Value.int .i64 X.key, .int .i64 X.val, .int .u32 (X.left : Int), .int .u32 (X.right : Int), .int .i64 X.size, .int .i64 X.sum, .int .i64 X.mn, .int .i64 X.mx] 49
  have HK := Lib.hid K
  have HKN := Lib.hid KN
  have HV := Lib.hid hv
  have HA := Lib.hid ha
  have HWF := Lib.hid hwf
  have HM := Lib.hid hm
  have HI := Lib.hid hi
  have HX := Lib.hid hx
  have HL := Lib.hid hl
  have HS := Lib.hid hs
  have HKK := Lib.hid hk
  have HFO := Lib.hid hform
  have HN := Lib.hid hn
  have HRD : Hid (0 ≤ rd ∧ rd ≤ 2199023255000) := ⟨h0, h1⟩
  clear hI hv ha hwf hm hi hx hl hs hk hform hn h0 h1 K KN
  go_enter Tryz.func108, Tryz.ntmps108
  go_upto_region 1 with fail
  generalize w.alloc (Obj.cells #[Value.int .i64 X.key, .int .i64 X.val, .int .u32 (X.left : Int), .int .u32 (X.right : Int), .int .i64 X.size, .int .i64 X.sum, .int .i64 X.mn, .int .i64 X.mx] 49) = w1 at hs0 ⊢
  generalize w.heap.size = g at hs0 ⊢
  have HCEL : Hid (∀ (wx : World) (rdx : Int), Ins I w F (.pointer (some pa)) A rdx [] [(g, Obj.cells #[Value.int .i64 X.key, .int .i64 X.val, .int .u32 (X.left : Int), .int .u32 (X.right : Int), .int .i64 X.size, .int .i64 X.sum, .int .i64 X.mn, .int .i64 X.mx] 49 (0, 0))] wx → wx.cell? ⟨g, 2, none⟩ = some (.int .u32 (X.left : Int)) ∧ wx.cell? ⟨g, 3, none⟩ = some (.int .u32 (X.right : Int))) := fun wx rdx hx => by
    obtain ⟨⟨x0, x1, x2, x3, x4, x5, x6, x7⟩, -⟩ := hx.row8 (g := g) (X := X) (by simp [ndRow])
    exact ⟨x2, x3⟩
  have hsd := hs0.calm (Below.refl _ _).drew
  clear hs0
  refine anyG_begin (S := (fun w' => w'.cell? ⟨g, 2, none⟩ = some (.int .u32 (X.left : Int)) ∧ w'.cell? ⟨g, 3, none⟩ = some (.int .u32 (X.right : Int)))) (z := 9999) (by kernel_rfl) (HCEL.out _ _ hsd) (fun hHeld => ?_)
  refine anyG_take (k := 0) (o := _) (v := ?_) (some 10) rfl (by kernel_rfl) (by kernel_rfl) (by kernel_rfl) (by kernel_rfl) (fun _ _ _ h => h) (Or.inl ⟨by rfl, ?_⟩) (by assumption) (by kernel_rfl) ?_
  rotate_left
  · intro w hSw; (try dsimp only at hSw); go_simp; try with_reducible rfl
  (try simp only [Act.put, List.setIfInBounds_toArray, List.set_cons_zero, List.set_cons_succ])
  refine anyG_take (k := 1) (o := _) (v := ?_) (some 11) rfl (by kernel_rfl) (by kernel_rfl) (by kernel_rfl) (by kernel_rfl) (fun _ _ _ h => h) (Or.inl ⟨by rfl, ?_⟩) (by assumption) (by kernel_rfl) ?_
  rotate_left
  · intro w hSw; (try dsimp only at hSw); go_simp; try with_reducible rfl
  (try simp only [Act.put, List.setIfInBounds_toArray, List.set_cons_zero, List.set_cons_succ])
  refine anyG_take (k := 2) (o := _) (v := ?_) (some 12) rfl (by kernel_rfl) (by kernel_rfl) (by kernel_rfl) (by kernel_rfl) (fun _ _ _ h => h) (Or.inl ⟨by rfl, ?_⟩) (by assumption) (by kernel_rfl) ?_
  rotate_left
  · intro w hSw; (try dsimp only at hSw); go_simp; try with_reducible rfl
  (try simp only [Act.put, List.setIfInBounds_toArray, List.set_cons_zero, List.set_cons_succ])
  refine anyG_take (k := 3) (o := _) (v := ?_) (some 13) rfl (by kernel_rfl) (by kernel_rfl) (by kernel_rfl) (by kernel_rfl) (fun _ _ _ h => h) (Or.inl ⟨by rfl, ?_⟩) (by assumption) (by kernel_rfl) ?_
  rotate_left
  · intro w hSw; (try dsimp only at hSw); go_simp; try with_reducible rfl
  (try simp only [Act.put, List.setIfInBounds_toArray, List.set_cons_zero, List.set_cons_succ])
  refine anyG_take (k := 5) (o := _) (v := ?_) (some 15) rfl (by kernel_rfl) (by kernel_rfl) (by kernel_rfl) (by kernel_rfl) (fun _ _ _ h => h) (Or.inl ⟨by rfl, ?_⟩) (by assumption) (by kernel_rfl) ?_
  rotate_left
  · intro w hSw; (try dsimp only at hSw); go_simp; try with_reducible rfl
  (try simp only [Act.put, List.setIfInBounds_toArray, List.set_cons_zero, List.set_cons_succ])
  refine anyG_take (k := 6) (o := _) (v := ?_) (some 16) rfl (by kernel_rfl) (by kernel_rfl) (by kernel_rfl) (by kernel_rfl) (fun _ _ _ h => h) (Or.inl ⟨by rfl, ?_⟩) (by assumption) (by kernel_rfl) ?_
  rotate_left
  · intro w hSw; (try dsimp only at hSw); go_simp; try with_reducible rfl
  (try simp only [Act.put, List.setIfInBounds_toArray, List.set_cons_zero, List.set_cons_succ])
  refine anyG_take (k := 7) (o := _) (v := ?_) (some 17) rfl (by kernel_rfl) (by kernel_rfl) (by kernel_rfl) (by kernel_rfl) (fun _ _ _ h => h) (Or.inl ⟨by rfl, ?_⟩) (by assumption) (by kernel_rfl) ?_
  rotate_left
  · intro w hSw; (try dsimp only at hSw); go_simp; try with_reducible rfl
  (try simp only [Act.put, List.setIfInBounds_toArray, List.set_cons_zero, List.set_cons_succ])
  refine anyG_one (k := 4) (o := _) (by kernel_rfl) rfl (fun KT hKT => ?_)
  go_simp
  go_at_call 36
  refine (hsd.sz (by have := HRD.out; (repeat' split) <;> omega) (by have := HRD.out; (repeat' split) <;> omega) (idx_lt32 HV.out HX.out.2) HX.out.2 HV.out.ok).mono ?_
  rintro eA wA ⟨rfl, hsA⟩
  try go_wp2_with fail
  refine hKT.out _ _ (HCEL.out _ _ hsA) (fun hHeld => ?_)
  clear hKT KT
  (try simp only [Act.put, List.setIfInBounds_toArray, List.set_cons_zero, List.set_cons_succ])
  refine anyG_one (k := 8) (o := _) (by kernel_rfl) rfl (fun KT hKT => ?_)
  go_simp
  go_at_call 36
  refine (hsA.sz (by have := HRD.out; (repeat' split) <;> omega) (by have := HRD.out; (repeat' split) <;> omega) (idx_lt32 HV.out HX.out.1) HX.out.1 HV.out.ok).mono ?_
  rintro eB wB ⟨rfl, hsB⟩
  try go_wp2_with fail
  refine hKT.out _ _ (HCEL.out _ _ hsB) (fun hHeld => ?_)
  clear hKT KT
  (try simp only [Act.put, List.setIfInBounds_toArray, List.set_cons_zero, List.set_cons_succ])
  refine anyG_one (k := 9) (o := _) (by kernel_rfl) rfl (fun KT hKT => ?_)
  go_simp
  go_at_call 110
  refine (sgl_any HKN.out _ HL.out (sz_rng HA.out HX.out.2) (sz_rng HA.out HX.out.1)).mono ?_
  rintro eC wC ⟨rfl, hbC⟩
  rw [HS.out]
  have hsC := hsB.calm hbC
  try go_wp2_with fail
  refine hKT.out _ _ (HCEL.out _ _ hsC) (fun hHeld => ?_)
  clear hKT KT
  (try simp only [Act.put, List.setIfInBounds_toArray, List.set_cons_zero, List.set_cons_succ])
  refine anyG_done (by kernel_rfl) ?_ _
  obtain ⟨rdc, hrc⟩ : ∃ r, (rd + if X.right = 0 then 0 else 1) + (if X.left = 0 then 0 else 1) = r := ⟨_, rfl⟩
  have HRC : Hid (rd ≤ rdc ∧ rdc ≤ rd + 2) := by
    show rd ≤ rdc ∧ rdc ≤ rd + 2
    rw [← hrc]
    (repeat' split) <;> omega
  rw [hrc] at hsC
  have HSC := Lib.hid hsC
  clear hrc hsC hsB hsA hsd hbC hHeld HCEL
  have HKC := HKK.out
  cases s
  · obtain rfl : k = 3 := HKC
    go_wp2_with fail
    refine (HSC.out.mut fun F1 hI1 => RotSpec.ok (k := 3) HK.out.dright hI1 HV.out HA.out HWF.out HM.out (by have := HRD.out; have := HRC.out; omega) (by have := HRD.out; have := HRC.out; omega) HI.out HFO.out HN.out).mono ?_
    rintro e w4 ⟨B, rd4, ⟨r0, r1, j, rfl, ht, hr⟩, hs4⟩
    have HE : Hid (∃ F', Alters F F' w w4 ∧ I.Is w4 (.pointer (some pa)) B rd4 F') := hs4.ends
    have HQ : Hid (TurnQ A rd 6 held 3 i (.returned (.tuple #[.int .u32 (j : Int), .int .i64 0])) B rd4) := ⟨by have := HRC.out; omega, by have := HRC.out; omega, j, rfl, ht, hr⟩
    clear r0 r1 ht hr hs4
    go_wp2_with fail
    go_ret2
    obtain ⟨F', hal, hI⟩ := HE.out
    exact ⟨F', B, rd4, hal, hI, HQ.out⟩
  · obtain rfl : k = 1 := HKC
    go_wp2_with fail
    refine (HSC.out.mut fun F1 hI1 => RotSpec.ok (k := 1) HK.out.right hI1 HV.out HA.out HWF.out HM.out (by have := HRD.out; have := HRC.out; omega) (by have := HRD.out; have := HRC.out; omega) HI.out HFO.out HN.out).mono ?_
    rintro e w4 ⟨B, rd4, ⟨r0, r1, j, rfl, ht, hr⟩, hs4⟩
    have HE : Hid (∃ F', Alters F F' w w4 ∧ I.Is w4 (.pointer (some pa)) B rd4 F') := hs4.ends
    have HQ : Hid (TurnQ A rd 6 held 1 i (.returned (.tuple #[.int .u32 (j : Int), .int .i64 0])) B rd4) := ⟨by have := HRC.out; omega, by have := HRC.out; omega, j, rfl, ht, hr⟩
    clear r0 r1 ht hr hs4
    go_wp2_with fail
    go_ret2
    obtain ⟨F', hal, hI⟩ := HE.out
    exact ⟨F', B, rd4, hal, hI, HQ.out⟩
end Go.Proofs.YtehaffcjoafkcaaGreat
set_option linter.unusedVariables false
set_option linter.unusedSimpArgs false
namespace Go.Proofs.YtehaffcjoafkcaaGreat
open Go.RowKit
theorem alone_off {A : Ar} {held : Nat → Nat} (hv : A.Inv [] held) {i : Nat} (h : A.σ.on i = false) : held i = 0 := by
  rcases Nat.eq_zero_or_pos (held i) with h0 | h0
  · exact h0
  · have := hv.held i h0; rw [h] at this; cases this
/-- behind a rotation the root that was rotated is given back, and its slot becomes free -/
theorem turn_end {A A1 C : Ar} {held : Nat → Nat} {i j k : Nat} (hM : Mid A held A1 [i]) (hal : Alone A1 i) (hoff : A.σ.on i = false) (hi : A1.σ.on i = true) (hf : rform A1 k i = true) (hk : k < 4) (ht : Turned A1 (plL held [i]) C j (rneed k)) (hr : RNodes A1 C k i j) :
    C.Inv [i] (plL held [j]) ∧ C.Idx i ∧ Mid A held (C.gone i) [j] ∧ A1.σ.free.length ≤ (C.gone i).σ.free.length + 2 ∧ ∀ t l, At C j t l → At (C.gone i) j t l := by
  obtain ⟨m1, m2, m3, m4⟩ := hM.rot ht
  obtain ⟨g1, g2, g3, g4, g5, g6⟩ := (m1.perm (List.Perm.swap i j [])).give
  have h0 : i ≠ 0 := by have := hM.inv.ok.on i hi; omega
  have hC : Alone C i := rot_alone hal hM.inv hi hf hk ht hr
  have hji : j ≠ i := fun e => by
    subst e
    obtain ⟨N, n1, n2, n3⟩ := hr.news hi hf hk ht.agg hM.inv ht.inv
    have hnew : NewIn A1 C j := by
      unfold RNodes at hr
      split at hr
      · obtain ⟨z, h1, _⟩ := hr; exact h1
      · obtain ⟨z, h1, _⟩ := hr; exact h1
      · obtain ⟨y, z, _, h1, _⟩ := hr; exact h1
      · obtain ⟨y, z, _, h1, _⟩ := hr; exact h1
    have h2 := hnew.2
    rw [hi] at h2
    cases h2
  have hh : plL held [j] i = 0 := by
    rw [plL_cons, plL_nil, pls_at, alone_off hM.base hoff, if_neg (fun q => hji q.2.symm)]
  have hon : C.σ.on i = true := ht.kept.on i hi
  have hfr := hC.frees g1 m1.agg h0 hon hh
  have hn : rneed k ≤ 3 := by unfold rneed; split <;> omega
  have hjdx : (C.gone i).Idx j := g5 j (by simp) (.inr (ht.inv.held j (by unfold more; rw [if_pos rfl]; omega)))
  exact ⟨g1, g2, g3, by omega, fun t l h => h.gone g3.inv hjdx⟩
/-- a call made a tree j over A, where x is held; then x is given back -/
theorem nest_give {A0 A B : Ar} {held : Nat → Nat} {x j : Nat} {t : Tr} {l : List En} (hM : Mid A0 held A [x]) (hB : Mid A (plL held [x]) B [j]) (hj : At B j t l) :
    B.Inv [x] (plL held [j]) ∧ B.Idx x ∧ Mid A0 held (B.gone x) [j] ∧ B.σ.free.length ≤ (B.gone x).σ.free.length ∧ At (B.gone x) j t l := by
  have hn : Mid A0 held B [j, x] := hM.nest hB
  obtain ⟨g1, g2, g3, g4, g5, g6⟩ := (hn.perm (List.Perm.swap x j [])).give
  exact ⟨g1, g2, g3, g4, hj.gone g3.inv (g5 j (by simp) hj.idx)⟩
theorem WfL.left {a b : List En} (h : WfL (a ++ b)) : WfL a := fun y hy => h y (by simp [hy])
theorem WfL.right {a b : List En} (h : WfL (a ++ b)) : WfL b := fun y hy => h y (by simp [hy])
theorem WfL.tail {e : En} {b : List En} (h : WfL (e :: b)) : WfL b := fun y hy => h y (by simp [hy])
theorem WfL.mid {a b : List En} {e : En} (ha : WfL a) (he : i64R e.key ∧ i64R e.val) (hb : WfL b) : WfL (a ++ e :: b) := fun y hy => by
  rcases List.mem_append.1 hy with h | h
  · exact ha y h
  · rcases List.mem_cons.1 h with rfl | h
    · exact he
    · exact hb y h
theorem wf_near2 {B : Ar} {hd : Nat → Nat} (hv : B.Inv [] hd) {i L R : Nat} {e : En} {tl tr : Tr} {ll lr : List En} (hon : B.σ.on i = true) (hn : (B.nd i).key = e.key ∧ (B.nd i).val = e.val ∧ (B.nd i).left = L ∧ (B.nd i).right = R) (hL : At B L tl ll) (hR : At B R tr lr) (hw : WfL (ll ++ e :: lr)) (he : i64R e.key ∧ i64R e.val) : WfNear B i := by
  have hz := off_zero hv
  have hz2 := (hv.off 0 hz).2
  have w1 := hw.left
  have w2 := hw.right.tail
  have key : ∀ {x : Nat} {t' : Tr} {l' : List En}, At B x t' l' → WfL l' → B.σ.on x = true → (i64R (B.nd x).key ∧ i64R (B.nd x).val) := fun {x t' l'} h1 h2 h3 => by
    have hx0 : x ≠ 0 := fun e => by subst e; rw [hz] at h3; cases h3
    obtain ⟨tl, tr, ll, lr, -, rfl, -, -, -⟩ := h1.split hx0
    exact h2 ⟨(B.nd x).key, (B.nd x).val⟩ (by simp)
  intro x hx hox
  have hx0 : x ≠ 0 := fun e => by subst e; rw [hz] at hox; cases hox
  rw [hn.2.2.1, hn.2.2.2] at hx
  rcases hx with rfl | rfl | rfl | rfl | rfl
  · rw [hn.1, hn.2.1]; exact he
  · exact key hL w1 hox
  · exact key hR w2 hox
  · by_cases hl0 : L = 0
    · rw [hl0, hz2] at hx0
      exact absurd rfl hx0
    · obtain ⟨tc, td, lc, ld, -, rfl, -, hD, -⟩ := hL.split hl0
      exact key hD w1.right.tail hox
  · by_cases hl0 : R = 0
    · rw [hl0, hz2] at hx0
      exact absurd rfl hx0
    · obtain ⟨tc, td, lc, ld, -, rfl, hC, -, -⟩ := hR.split hl0
      exact key hC w2.left hox
/-- what balance answers: a tree over two trees; how many slots it takes -/
def BalQ (A0 A : Ar) (rd : Int) (held : Nat → Nat) (ll lr : List En) (e : En) (en : Ending) (B : Ar) (rd' : Int) : Prop :=
  rd ≤ rd' ∧ rd' ≤ rd + 9 ∧ ∃ (j : Nat) (t : Tr), en = .returned (.tuple #[.int .u32 (j : Int), .int .i64 0]) ∧ Mid A0 held B [j] ∧ At B j t (ll ++ e :: lr) ∧ (wbL ll lr → A.σ.free.length ≤ B.σ.free.length + 1) ∧ A.σ.free.length ≤ B.σ.free.length + 3
/-- the two sides are balanced, or the one is too heavy by so little that one rotation is enough -/
def HbL (ll lr : List En) : Prop := wbL ll lr ∨ (3 * (ll.length + 1) < lr.length + 1 ∧ hv (ll.length + 1) (lr.length + 1)) ∨ (3 * (lr.length + 1) < ll.length + 1 ∧ hv (lr.length + 1) (ll.length + 1))
set_option maxHeartbeats 16000000 in
set_option maxRecDepth 100000 in
theorem balance_any (I : AImpl) (K : RotImpl I) (KN : ShNum) {p : Value} {A : Ar} {rd : Int} {F : Nat → Prop} {held : Nat → Nat} {L R : Nat} {tl tr : Tr} {ll lr : List En} (e : En) (w : World) (hI : I.Is w p A rd F) (hv : A.Inv [] held) (ha : A.Agg) (hm : ∀ j, held j ≤ 1048490)
    (hL : At A L tl ll) (hR : At A R tr lr) (hwl : WfL ll) (hwr : WfL lr) (hwe : i64R e.key ∧ i64R e.val) (hb : HbL ll lr) (hs : ll.length + lr.length + 1 ≤ 2147483647) (h0 : 0 ≤ rd) (h1 : rd ≤ 2199023254900) (hfr : (wbL ll lr ∧ 1 ≤ A.σ.free.length) ∨ 4 ≤ A.σ.free.length) :
    Calls Tryz.prog 98 #[p, .int .u32 (L : Int), .agg #[Value.int .i64 e.key, .int .i64 e.val], .int .u32 (R : Int)] w (Mut I p F (BalQ A A rd held ll lr e) w) := by
  obtain ⟨pa, rfl⟩ := I.ptr hI
  have hs0 := (Ins.start hI).box #[Value.int .i64 e.key, .int .i64 e.val] 25
  have HK := Lib.hid K
  have HKN := Lib.hid KN
  have HV := Lib.hid hv
  have HA := Lib.hid ha
  have HM := Lib.hid hm
  have HLA := Lib.hid hL
  have HRA := Lib.hid hR
  have HWE := Lib.hid hwe
  have HB := Lib.hid hb
  have HSZ := Lib.hid hs
  have HFR := Lib.hid hfr
  have HRD : Hid (0 ≤ rd ∧ rd ≤ 2199023254900) := ⟨h0, h1⟩
  obtain ⟨i1, t1, hf⟩ : ∃ i t, A.σ.free = i :: t := by
    cases hq : A.σ.free with
    | nil => rw [hq] at hfr; simp at hfr
    | cons i t => exact ⟨i, t, rfl⟩
  have hnl := hL.sz ha
  have hnr := hR.sz ha
  have hsz : (A.node e.key e.val L R).size ≤ 2147483647 := by show 1 + A.sz L + A.sz R ≤ _; omega
  obtain ⟨m1, m2, m3, m4, m5, m6⟩ := (Mid.start hv ha).made hf (key := e.key) (val := e.val) hL.idx hR.idx hsz
  have hal := alone_made hv hf (key := e.key) (val := e.val) hL.idx hR.idx
  have hoff : A.σ.on i1 = false := ((hv.ok.free i1).1 (by rw [hf]; simp)).2.2
  have HF := Lib.hid hf
  have HMK : Hid (A.Idx L ∧ A.Idx R ∧ (A.node e.key e.val L R).size ≤ 2147483647) := ⟨hL.idx, hR.idx, hsz⟩
  obtain ⟨A1, hA1⟩ : ∃ B, A.made i1 t1 (A.node e.key e.val L R) = B := ⟨_, rfl⟩
  rw [hA1] at m1 m2 m3 m5 m6 hal
  have HM1 : Hid (Mid A held A1 [i1] ∧ A.Kept A1 ∧ A1.σ.free.length + 1 = A.σ.free.length) := ⟨m1, m2, by rw [m3, hf]; rfl⟩
  have HN1 : Hid (i1 ≠ 0 ∧ A1.σ.on i1 = true ∧ ((A1.nd i1).key = e.key ∧ (A1.nd i1).val = e.val ∧ (A1.nd i1).left = L ∧ (A1.nd i1).right = R) ∧ Alone A1 i1 ∧ A.σ.on i1 = false) := ⟨m4, m5, by rw [m6]; exact ⟨rfl, rfl, rfl, rfl⟩, hal, hoff⟩
  have HZ : Hid (A1.sz L = (ll.length : Int) ∧ A1.sz R = (lr.length : Int) ∧ A1.Idx L ∧ A1.Idx R ∧ L < 4294967296 ∧ R < 4294967296 ∧ i1 < 4294967296) := ⟨(hL.kept m2).sz m1.agg, (hR.kept m2).sz m1.agg, (hL.kept m2).idx, (hR.kept m2).idx, idx_lt32 hv hL.idx, idx_lt32 hv hR.idx, idx_lt32 m1.inv (.inr m5)⟩
  have HWL : Hid (WfL (ll ++ e :: lr)) := hwl.mid hwe hwr
  have HA1 := Lib.hid hA1
  clear hI hv ha hm hL hR hwl hwr hwe hb hs h0 h1 hfr hf hnl hnr hsz m1 m2 m3 m4 m5 m6 hal hoff hA1 K KN
  go_enter Tryz.func98, Tryz.ntmps98
  go_upto_region 1 with fail
  generalize w.alloc (Obj.cells #[Value.int .i64 e.key, .int .i64 e.val] 25) = w1 at hs0 ⊢
  generalize w.heap.size = g at hs0 ⊢
  have HS0 := Lib.hid hs0
  clear hs0
  obtain ⟨x0, x1⟩ := two_ofE (HS0.out.boxes (g, Obj.cells #[Value.int .i64 e.key, .int .i64 e.val] 25 (0, 0)) (by simp)).2
  go_wp2_with fail
  refine (HS0.out.make HV.out HA.out (fun j => Nat.le_trans (HM.out j) (by decide)) HWE.out.1 HWE.out.2 HMK.out.1 HMK.out.2.1 HMK.out.2.2 HF.out).mono ?_
  rintro en w2 ⟨rfl, hs⟩
  rw [HA1.out] at hs
  have HS1 := Lib.hid (hs.less (List.Sublist.refl _) (List.sublist_cons_self _ _))
  clear hs HS0 x0 x1
  go_wp2_with fail
  refine (HS1.out.sz HRD.out.1 (by have := HRD.out; omega) HZ.out.2.2.2.2.1 HZ.out.2.2.1 HM1.out.1.inv.ok).mono ?_
  rintro en w3 ⟨rfl, hs⟩
  rw [HZ.out.1]
  have HS2 := Lib.hid hs
  clear hs HS1
  go_wp2_with fail
  refine (HS2.out.sz (by have := HRD.out; (repeat' split) <;> omega) (by have := HRD.out; (repeat' split) <;> omega) HZ.out.2.2.2.2.2.1 HZ.out.2.2.2.1 HM1.out.1.inv.ok).mono ?_
  rintro en w4 ⟨rfl, hs⟩
  rw [HZ.out.2.1]
  obtain ⟨rd1, hrd1⟩ : ∃ r, (rd + if L = 0 then 0 else 1) + (if R = 0 then 0 else 1) = r := ⟨_, rfl⟩
  have HR1 : Hid (rd ≤ rd1 ∧ rd1 ≤ rd + 2) := by
    show rd ≤ rd1 ∧ rd1 ≤ rd + 2
    rw [← hrd1]
    (repeat' split) <;> omega
  rw [hrd1] at hs
  have HS3 := Lib.hid hs
  clear hs HS2 hrd1
  go_wp2_with fail
  refine (HKN.out.balanced (ll.length : Int) (lr.length : Int) w4 (by omega) (by have := HSZ.out; omega) (by omega) (by have := HSZ.out; omega)).mono ?_
  rintro en w5 ⟨rfl, hb5⟩
  have HS4 := Lib.hid (HS3.out.calm hb5)
  clear hb5 HS3
  obtain ⟨b, hbv⟩ : ∃ b, Proofs.YtehaffcjoafkcaaGreat.bal (ll.length : Int) (lr.length : Int) = b := ⟨_, rfl⟩
  rw [hbv]
  have HBV := Lib.hid hbv
  clear hbv
  cases b
  rotate_left
  · have hE := HS4.out.ends
    have hw := bal_wb HBV.out
    have HQ : Hid (BalQ A A rd held ll lr e (.returned (.tuple #[.int .u32 (i1 : Int), .int .i64 0])) A1 rd1) :=
      ⟨HR1.out.1, by have := HR1.out; omega, i1, _, rfl, HM1.out.1, At.join HM1.out.1.agg HN1.out.1 HN1.out.2.1 HN1.out.2.2.1 (HLA.out.kept HM1.out.2.1) (HRA.out.kept HM1.out.2.1) hw, fun _ => by have := HM1.out.2.2; omega, by have := HM1.out.2.2; omega⟩
    have HE := Lib.hid hE
    clear hE hw
    go_wp2_with fail
    go_ret2
    obtain ⟨F', hal, hI⟩ := HE.out
    exact ⟨F', A1, rd1, hal, hI, HQ.out⟩
  have hnw : ¬ wbL ll lr := fun q => by
    have h := HSZ.out
    have := wb_bal (a := ll.length) (b := lr.length) (by omega) (by omega) q
    rw [HBV.out] at this
    cases this
  have HNW := Lib.hid hnw
  have HF4 : Hid (4 ≤ A.σ.free.length) := HFR.out.resolve_left fun q => hnw q.1
  have hB2 := HB.out.resolve_left hnw
  clear hnw HFR HBV
  rcases hB2 with hB2 | hB2
  · have HH := Lib.hid hB2
    have hlt : decide ((ll.length : Int) < (lr.length : Int)) = true := decide_eq_true (by have := hB2.1; omega)
    have hlt2 : (ll.length : Int) < (lr.length : Int) := by have := hB2.1; omega
    clear hB2
    obtain ⟨g1, g2, g3, g4, g5⟩ := heavy_right HM1.out.1.inv HM1.out.1.agg HN1.out.2.1 HN1.out.2.2.1 (HLA.out.kept HM1.out.2.1) (HRA.out.kept HM1.out.2.1) HH.out.1 HH.out.2 HSZ.out
    obtain ⟨XN, hX⟩ : ∃ x, A1.nd R = x := ⟨_, rfl⟩
    rw [hX] at g2 g3 g4 g5
    have HX := Lib.hid hX
    have HON : Hid (A1.σ.on R = true) := g1
    have HXI : Hid (A1.Idx XN.left ∧ A1.Idx XN.right) := by have h := HM1.out.1.inv.child _ g1; rw [hX] at h; exact h
    obtain ⟨s, hsg⟩ : ∃ s, sgl (ll.length : Int) (A1.sz XN.left) (A1.sz XN.right) = s := ⟨_, rfl⟩
    rw [hsg] at g4 g5
    have HSG := Lib.hid hsg
    have HT : Hid (∃ k, k < 4 ∧ (k = if s = true then 0 else 2) ∧ rform A1 k i1 = true ∧ ∀ C hd' j, A1.Kept C → C.Inv [] hd' → C.Agg → RNodes A1 C k i1 j → ∃ t, At C j t (ll ++ e :: lr)) := by
      cases s
      · exact ⟨2, by decide, rfl, (g5 rfl).1, (g5 rfl).2⟩
      · exact ⟨0, by decide, rfl, (g4 rfl).1, (g4 rfl).2⟩
    have HLL : Hid (0 ≤ (ll.length : Int) ∧ (ll.length : Int) ≤ 2147483647) := ⟨by omega, by have := HSZ.out; omega⟩
    clear g1 g2 g3 g4 g5 hX hsg
    go_wp2_with fail
    refine (HS4.out.node (by have := HRD.out; have := HR1.out; omega) (by have := HRD.out; have := HR1.out; omega) HZ.out.2.2.2.2.2.1 HON.out).mono ?_
    rintro en w6 ⟨rfl, hs⟩
    rw [HX.out]
    unfold ndRow
    have hs1 := hs.box #[Value.int .i64 XN.key, .int .i64 XN.val, .int .u32 (XN.left : Int), .int .u32 (XN.right : Int), .int .i64 XN.size, .int .i64 XN.sum, .int .i64 XN.mn, .int .i64 XN.mx] 49
    clear hs HS4
    go_upto_region 8 with fail
    generalize w6.alloc (Obj.cells #[Value.int .i64 XN.key, .int .i64 XN.val, .int .u32 (XN.left : Int), .int .u32 (XN.right : Int), .int .i64 XN.size, .int .i64 XN.sum, .int .i64 XN.mn, .int .i64 XN.mx] 49) = w7 at hs1 ⊢
    generalize w6.heap.size = gx at hs1 ⊢
    have HS5 := Lib.hid hs1
    clear hs1
    obtain ⟨⟨x0, x1, x2, x3, x4, x5, x6, x7⟩, -⟩ := HS5.out.row8 (g := gx) (X := XN) (by simp [ndRow])
    obtain ⟨k, hk4, hks, hform, hres⟩ := HT.out
    have HK4 := Lib.hid hk4
    have HKS := Lib.hid hks
    have HFO := Lib.hid hform
    have HRES := Lib.hid hres
    have HRN : Hid (rneed k ≤ A1.σ.free.length) := by
      show rneed k ≤ _
      have h1 := HM1.out.2.2
      have h2 := HF4.out
      have h3 : rneed k ≤ 3 := by unfold rneed; split <;> omega
      omega
    have HWN : Hid (WfNear A1 i1) := by
      exact wf_near2 HM1.out.1.inv HN1.out.2.1 HN1.out.2.2.1 (HLA.out.kept HM1.out.2.1) (HRA.out.kept HM1.out.2.1) HWL.out HWE.out
    clear hk4 hks hform hres HT
    go_wp2_with fail
    refine (HS5.out.mut fun F1 hI1 => rotateLeft_any I HK.out HKN.out (k := k) (s := s) (X := XN) w7 hI1 HM1.out.1.inv HM1.out.1.agg HWN.out (fun j => Nat.le_trans (plL_le HM.out [i1] j) (show 1048490 + 1 ≤ 1048500 by decide)) (by have := HRD.out; have := HR1.out; omega) (by have := HRD.out; have := HR1.out; omega) HZ.out.2.2.2.2.2.2 HXI.out HLL.out HSG.out HKS.out HFO.out HRN.out).mono ?_
    rintro en w8 ⟨C, rd8, ⟨r0, r1, j, rfl, ht, hr⟩, hs8⟩
    have HS8 := Lib.hid hs8
    obtain ⟨u1, u2, u3, u4, u5⟩ := turn_end HM1.out.1 HN1.out.2.2.2.1 HN1.out.2.2.2.2 HN1.out.2.1 HFO.out HK4.out ht hr
    obtain ⟨tj, hj⟩ := HRES.out C _ j ht.kept ht.inv ht.agg hr
    have HU : Hid (C.Inv [i1] (plL held [j]) ∧ C.Idx i1) := ⟨u1, u2⟩
    have HQ : Hid (BalQ A A rd held ll lr e (.returned (.tuple #[.int .u32 (j : Int), .int .i64 0])) (C.gone i1) rd8) :=
      ⟨by have := HR1.out; omega, by have := HR1.out; omega, j, tj, rfl, u3, u5 _ _ hj, fun q => absurd q HNW.out, by have := HM1.out.2.2; omega⟩
    clear hs8 HS5 r0 r1 ht hr u1 u2 u3 u4 u5 hj x0 x1 x2 x3 x4 x5 x6 x7
    go_wp2_with fail
    refine (HS8.out.release HZ.out.2.2.2.2.2.2 HU.out.2 HU.out.1).mono ?_
    rintro en w9 ⟨rfl, hs9⟩
    have HE := Lib.hid hs9.ends
    clear hs9 HS8
    go_wp2_with fail
    go_ret2
    obtain ⟨F', hal, hI⟩ := HE.out
    exact ⟨F', _, rd8, hal, hI, HQ.out⟩
  · have HH := Lib.hid hB2
    have hlt : decide ((ll.length : Int) < (lr.length : Int)) = false := decide_eq_false (by have := hB2.1; omega)
    have hlt2 : ¬ (ll.length : Int) < (lr.length : Int) := by have := hB2.1; omega
    clear hB2
    obtain ⟨g1, g2, g3, g4, g5⟩ := heavy_left HM1.out.1.inv HM1.out.1.agg HN1.out.2.1 HN1.out.2.2.1 (HLA.out.kept HM1.out.2.1) (HRA.out.kept HM1.out.2.1) HH.out.1 HH.out.2 HSZ.out
    obtain ⟨XN, hX⟩ : ∃ x, A1.nd L = x := ⟨_, rfl⟩
    rw [hX] at g2 g3 g4 g5
    have HX := Lib.hid hX
    have HON : Hid (A1.σ.on L = true) := g1
    have HXI : Hid (A1.Idx XN.left ∧ A1.Idx XN.right) := by have h := HM1.out.1.inv.child _ g1; rw [hX] at h; exact h
    obtain ⟨s, hsg⟩ : ∃ s, sgl (lr.length : Int) (A1.sz XN.right) (A1.sz XN.left) = s := ⟨_, rfl⟩
    rw [hsg] at g4 g5
    have HSG := Lib.hid hsg
    have HT : Hid (∃ k, k < 4 ∧ (k = if s = true then 1 else 3) ∧ rform A1 k i1 = true ∧ ∀ C hd' j, A1.Kept C → C.Inv [] hd' → C.Agg → RNodes A1 C k i1 j → ∃ t, At C j t (ll ++ e :: lr)) := by
      cases s
      · exact ⟨3, by decide, rfl, (g5 rfl).1, (g5 rfl).2⟩
      · exact ⟨1, by decide, rfl, (g4 rfl).1, (g4 rfl).2⟩
    have HLL : Hid (0 ≤ (lr.length : Int) ∧ (lr.length : Int) ≤ 2147483647) := ⟨by omega, by have := HSZ.out; omega⟩
    clear g1 g2 g3 g4 g5 hX hsg
    go_wp2_with fail
    refine (HS4.out.node (by have := HRD.out; have := HR1.out; omega) (by have := HRD.out; have := HR1.out; omega) HZ.out.2.2.2.2.1 HON.out).mono ?_
    rintro en w6 ⟨rfl, hs⟩
    rw [HX.out]
    unfold ndRow
    have hs1 := hs.box #[Value.int .i64 XN.key, .int .i64 XN.val, .int .u32 (XN.left : Int), .int .u32 (XN.right : Int), .int .i64 XN.size, .int .i64 XN.sum, .int .i64 XN.mn, .int .i64 XN.mx] 49
    clear hs HS4
    go_upto_region 10 with fail
    generalize w6.alloc (Obj.cells #[Value.int .i64 XN.key, .int .i64 XN.val, .int .u32 (XN.left : Int), .int .u32 (XN.right : Int), .int .i64 XN.size, .int .i64 XN.sum, .int .i64 XN.mn, .int .i64 XN.mx] 49) = w7 at hs1 ⊢
    generalize w6.heap.size = gx at hs1 ⊢
    have HS5 := Lib.hid hs1
    clear hs1
    obtain ⟨⟨x0, x1, x2, x3, x4, x5, x6, x7⟩, -⟩ := HS5.out.row8 (g := gx) (X := XN) (by simp [ndRow])
    obtain ⟨k, hk4, hks, hform, hres⟩ := HT.out
    have HK4 := Lib.hid hk4
    have HKS := Lib.hid hks
    have HFO := Lib.hid hform
    have HRES := Lib.hid hres
    have HRN : Hid (rneed k ≤ A1.σ.free.length) := by
      show rneed k ≤ _
      have h1 := HM1.out.2.2
      have h2 := HF4.out
      have h3 : rneed k ≤ 3 := by unfold rneed; split <;> omega
      omega
    have HWN : Hid (WfNear A1 i1) := by
      exact wf_near2 HM1.out.1.inv HN1.out.2.1 HN1.out.2.2.1 (HLA.out.kept HM1.out.2.1) (HRA.out.kept HM1.out.2.1) HWL.out HWE.out
    clear hk4 hks hform hres HT
    go_wp2_with fail
    refine (HS5.out.mut fun F1 hI1 => rotateRight_any I HK.out HKN.out (k := k) (s := s) (X := XN) w7 hI1 HM1.out.1.inv HM1.out.1.agg HWN.out (fun j => Nat.le_trans (plL_le HM.out [i1] j) (show 1048490 + 1 ≤ 1048500 by decide)) (by have := HRD.out; have := HR1.out; omega) (by have := HRD.out; have := HR1.out; omega) HZ.out.2.2.2.2.2.2 HXI.out HLL.out HSG.out HKS.out HFO.out HRN.out).mono ?_
    rintro en w8 ⟨C, rd8, ⟨r0, r1, j, rfl, ht, hr⟩, hs8⟩
    have HS8 := Lib.hid hs8
    obtain ⟨u1, u2, u3, u4, u5⟩ := turn_end HM1.out.1 HN1.out.2.2.2.1 HN1.out.2.2.2.2 HN1.out.2.1 HFO.out HK4.out ht hr
    obtain ⟨tj, hj⟩ := HRES.out C _ j ht.kept ht.inv ht.agg hr
    have HU : Hid (C.Inv [i1] (plL held [j]) ∧ C.Idx i1) := ⟨u1, u2⟩
    have HQ : Hid (BalQ A A rd held ll lr e (.returned (.tuple #[.int .u32 (j : Int), .int .i64 0])) (C.gone i1) rd8) :=
      ⟨by have := HR1.out; omega, by have := HR1.out; omega, j, tj, rfl, u3, u5 _ _ hj, fun q => absurd q HNW.out, by have := HM1.out.2.2; omega⟩
    clear hs8 HS5 r0 r1 ht hr u1 u2 u3 u4 u5 hj x0 x1 x2 x3 x4 x5 x6 x7
    go_wp2_with fail
    refine (HS8.out.release HZ.out.2.2.2.2.2.2 HU.out.2 HU.out.1).mono ?_
    rintro en w9 ⟨rfl, hs9⟩
    have HE := Lib.hid hs9.ends
    clear hs9 HS8
    go_wp2_with fail
    go_ret2
    obtain ⟨F', hal, hI⟩ := HE.out
    exact ⟨F', _, rd8, hal, hI, HQ.out⟩
end Go.Proofs.YtehaffcjoafkcaaGreat
