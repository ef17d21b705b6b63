/- Of the proof of B16SetopsDistributeP: BkShp, LawBkParts, LawStDist. -/
import Derived.Test.YtfihklpofmcfgaaGreatB16SetopsDistributeP1
import Derived.Deep.QuietTactic
import Derived.Deep.DeepCutAuto
set_option linter.unusedVariables false
set_option linter.unusedSimpArgs false
namespace Go.Proofs.YtfihklpofmcfgaaGreat
open Go.RowKit
/-- a call that alters the arena, told what is not the arena's -/
theorem Scn.mutF {I : AImpl} {B : Nat} {w0 w : World} {p : Value} {A : Ar} {rd : Int} {rs : List Row} {bs : List (Nat × Obj)} {f : FuncId} {args : Array Value} {Q : Ending → Ar → Int → Prop} (h : Scn I B w0 w p A rd rs bs) (hc : ∀ F, I.Is w p A rd F → (∀ k, F k → B ≤ k) → (∀ k, SG rs bs k → ¬ F k) → Calls Tryz.prog f args w (Mut I p F Q w)) :
    Calls Tryz.prog f args w fun e w' => ∃ A' rd', Q e A' rd' ∧ Scn I B w0 w' p A' rd' rs bs := by
  obtain ⟨F, f1, f2, f3⟩ := h.mr.has
  refine (hc F f1 f2 fun k hk => (f3 k hk).2).mono ?_
  rintro e w1 ⟨F', A', rd', hal, hI, hq⟩
  have hst := h.mr.stepA f2 f3 hal hI
  exact ⟨A', rd', hq, h.stepA hst.1 hst.2⟩
theorem us_at (w : World) (t : TypeId) (xs : List Nat) (cs : Array Value) (hc : cs = (xs.map fun x : Nat => Value.int .u32 (x : Int)).toArray) (hx : ∀ x ∈ xs, x < 4294967296) : U32At (w.alloc (.cells cs t)) (some ⟨w.heap.size, 0, none⟩) xs := by
  have hr := heap_alloc_new w (.cells cs t)
  refine ⟨fun j hj => ⟨w.heap.size, 0, rfl, by simp, ?_⟩, hx⟩
  rw [cell_of_row _ _ _ _ _ _ hr, hc]
  simp [List.getD_eq_getElem?_getD, hj]
theorem BuildQ.roomD {A B : Ar} {rd rd' : Int} {held : Nat → Nat} {l : List En} {en : Ending} (h : BuildQ A rd held l en B rd') (hu : Up l) (hr : l.length ≤ A.σ.free.length) :
    rd ≤ rd' ∧ rd' ≤ rd + 16 * (l.length : Int) + 64 ∧ ∃ (j : Nat) (t : Tr), en = .returned (.tuple #[.int .u32 (j : Int), .int .i64 0]) ∧ Got A held B j t l := by
  obtain ⟨h1, h2, h⟩ := h
  refine ⟨h1, h2, ?_⟩
  rcases h with ⟨q, -⟩ | ⟨-, q, -⟩ | ⟨-, -, j, t, rfl, hg, -⟩
  · exact absurd hu q
  · omega
  · exact ⟨j, t, rfl, hg⟩
theorem PolQ.roomD {A B : Ar} {rd rd' pol : Int} {held : Nat → Nat} {l m want : List En} {same : Prop} {res : Nat} {en : Ending} (h : PolQ A rd held l m want pol same res en B rd') (hp : polOk pol) (hr : setI (l.length : Int) (m.length : Int) ≤ (A.σ.free.length : Int)) :
    rd ≤ rd' ∧ rd' ≤ rd + setBd l.length m.length ∧ ∃ (j : Nat) (u : Tr), en = .returned (.tuple #[.int .u32 (j : Int), .int .i64 0]) ∧ Got A held B j u want := by
  rcases h with ⟨h1, -⟩ | ⟨-, h⟩
  · exact absurd hp h1
  · exact h.room hr
set_option maxHeartbeats 16000000 in
set_option maxRecDepth 100000 in
theorem dist_walk (I : AImpl) (hchk : CheckSpec) (K : BkImpl I) (KS : StImpl I) {a b d : Option Addr} {n c k cb m cd : Nat} {raw other third : List En} {w : World} (hE1 : EnsAt w a raw) (hn1 : raw.length = n) (hm1 : n ≤ 9223372036854775807) (hE2 : EnsAt w b other) (hn2 : other.length = k) (hm2 : k ≤ 9223372036854775807) (hE3 : EnsAt w d third) (hn3 : third.length = m) (hm3 : m ≤ 9223372036854775807) :
    Calls Tryz.prog 7 #[.slice a n c, .slice b k cb, .slice d m cd] w (Calm w (.bool true)) := by
  have HK := Lib.hid K
  have HKS := Lib.hid KS
  have HCHK := Lib.hid hchk
  have HUP1 := Lib.hid (listE_up raw 40)
  have HLN1 := Lib.hid (listE_len raw 40)
  have HWF1 : Hid (WfL (listE raw 40)) := fun y hy => hE1.wf y (listE_mem hy)
  have HLI1 : Hid (∀ wx, Below w.heap.size w wx → Calls Tryz.prog 32 #[.slice a n c, .int .i64 40] wx (MadeEns wx (listE raw 40))) := fun wx hb => list_any (k := 40) (hE1.below hb) hn1 hm1 (by decide)
  generalize listE raw 40 = l1 at HUP1 HLN1 HWF1 HLI1
  have HUP2 := Lib.hid (listE_up other 40)
  have HLN2 := Lib.hid (listE_len other 40)
  have HWF2 : Hid (WfL (listE other 40)) := fun y hy => hE2.wf y (listE_mem hy)
  have HLI2 : Hid (∀ wx, Below w.heap.size w wx → Calls Tryz.prog 32 #[.slice b k cb, .int .i64 40] wx (MadeEns wx (listE other 40))) := fun wx hb => list_any (k := 40) (hE2.below hb) hn2 hm2 (by decide)
  generalize listE other 40 = l2 at HUP2 HLN2 HWF2 HLI2
  have HUP3 := Lib.hid (listE_up third 40)
  have HLN3 := Lib.hid (listE_len third 40)
  have HWF3 : Hid (WfL (listE third 40)) := fun y hy => hE3.wf y (listE_mem hy)
  have HLI3 : Hid (∀ wx, Below w.heap.size w wx → Calls Tryz.prog 32 #[.slice d m cd, .int .i64 40] wx (MadeEns wx (listE third 40))) := fun wx hb => list_any (k := 40) (hE3.below hb) hn3 hm3 (by decide)
  generalize listE third 40 = l3 at HUP3 HLN3 HWF3 HLI3
  clear K KS hchk hE1 hE2 hE3 hn1 hn2 hn3 hm1 hm2 hm3
  obtain ⟨L1, hL1⟩ : ∃ L, l1.length = L := ⟨_, rfl⟩
  rw [hL1] at HLN1
  have HB1 : Hid (l1.length ≤ 40) := by show _ ≤ _; rw [hL1]; exact HLN1.out
  have HLL1 : Hid (l1.length = L1 ∧ L1 ≤ 40) := ⟨hL1, HLN1.out⟩
  have hLi1 : (L1 : Int) ≤ 40 := by have := HLN1.out; omega
  clear hL1 HLN1
  obtain ⟨L2, hL2⟩ : ∃ L, l2.length = L := ⟨_, rfl⟩
  rw [hL2] at HLN2
  have HB2 : Hid (l2.length ≤ 40) := by show _ ≤ _; rw [hL2]; exact HLN2.out
  have HLL2 : Hid (l2.length = L2 ∧ L2 ≤ 40) := ⟨hL2, HLN2.out⟩
  have hLi2 : (L2 : Int) ≤ 40 := by have := HLN2.out; omega
  clear hL2 HLN2
  obtain ⟨L3, hL3⟩ : ∃ L, l3.length = L := ⟨_, rfl⟩
  rw [hL3] at HLN3
  have HB3 : Hid (l3.length ≤ 40) := by show _ ≤ _; rw [hL3]; exact HLN3.out
  have HLL3 : Hid (l3.length = L3 ∧ L3 ≤ 40) := ⟨hL3, HLN3.out⟩
  have hLi3 : (L3 : Int) ≤ 40 := by have := HLN3.out; omega
  clear hL3 HLN3
  have HUP4 : Hid (Up (unionE l2 l3 1)) := unionE_up HUP2.out 1 l3 l2 HUP2.out
  have HUP5 : Hid (Up (subE l1 (unionE l2 l3 1))) := subE_up HUP1.out _
  have HUP6 : Hid (Up (subE l1 l2)) := subE_up HUP1.out _
  have HUP7 : Hid (Up (subE (subE l1 l2) l3)) := subE_up HUP6.out _
  have HUP8 : Hid (Up (intE l1 (unionE l2 l3 1) 1)) := intE_up HUP1.out _ _
  have HUP9 : Hid (Up (intE l1 l2 1)) := intE_up HUP1.out _ _
  have HUP10 : Hid (Up (intE l1 l3 1)) := intE_up HUP1.out _ _
  have HUP11 : Hid (Up (unionE (intE l1 l2 1) (intE l1 l3 1) 1)) := unionE_up HUP9.out 1 _ _ HUP9.out
  have HWF4 : Hid (WfL (unionE l2 l3 1)) := unionE_wf HWF2.out HWF3.out
  have HWF5 : Hid (WfL (subE l1 (unionE l2 l3 1))) := subE_wf _ HWF1.out
  have HWF6 : Hid (WfL (subE l1 l2)) := subE_wf _ HWF1.out
  have HWF8 : Hid (WfL (intE l1 (unionE l2 l3 1) 1)) := intE_wf HWF1.out HWF4.out
  have HWF9 : Hid (WfL (intE l1 l2 1)) := intE_wf HWF1.out HWF2.out
  have HWF10 : Hid (WfL (intE l1 l3 1)) := intE_wf HWF1.out HWF3.out
  have HB4 : Hid ((unionE l2 l3 1).length ≤ 80) := by have := unionE_len l2 l3 1; have := HB2.out; have := HB3.out; show _ ≤ _; omega
  have HB5 : Hid ((subE l1 (unionE l2 l3 1)).length ≤ 40) := by have := subE_len l1 (unionE l2 l3 1); have := HB1.out; show _ ≤ _; omega
  have HB6 : Hid ((subE l1 l2).length ≤ 40) := by have := subE_len l1 l2; have := HB1.out; show _ ≤ _; omega
  have HB7 : Hid ((subE (subE l1 l2) l3).length ≤ 40) := by have := subE_len (subE l1 l2) l3; have := HB6.out; show _ ≤ _; omega
  have HB8 : Hid ((intE l1 (unionE l2 l3 1) 1).length ≤ 40) := by have := intE_len l1 (unionE l2 l3 1) 1; have := HB1.out; show _ ≤ _; omega
  have HB9 : Hid ((intE l1 l2 1).length ≤ 40) := by have := intE_len l1 l2 1; have := HB1.out; show _ ≤ _; omega
  have HB10 : Hid ((intE l1 l3 1).length ≤ 40) := by have := intE_len l1 l3 1; have := HB1.out; show _ ≤ _; omega
  have HB11 : Hid ((unionE (intE l1 l2 1) (intE l1 l3 1) 1).length ≤ 80) := by have := unionE_len (intE l1 l2 1) (intE l1 l3 1) 1; have := HB9.out; have := HB10.out; show _ ≤ _; omega
  have HSV : Hid (subE (subE l1 l2) l3 = subE l1 (unionE l2 l3 1)) := (sub_union 1 HUP1.out HUP2.out HUP3.out).symm
  have HMP : Hid (unionE (intE l1 l2 1) (intE l1 l3 1) 1 = intE l1 (unionE l2 l3 1) 1) := (int_union HUP1.out HUP2.out HUP3.out).symm
  have HP1 : Hid (polOk 1 ∧ i64R 1) := ⟨⟨by decide, by decide⟩, ⟨by decide, by decide⟩⟩
  go_enter Tryz.func7, Tryz.ntmps7
  go_wp2_with fail
  refine (I.new_ok 5000 w (by omega) (by omega)).mono ?_
  rintro e w2 ⟨p, F, rfl, hI, hF, hb2⟩
  obtain ⟨pa, rfl⟩ := I.ptr hI
  have HS2 : Hid (Scn I w.heap.size w w2 (.pointer (some pa)) (Ar.init 5000) 0 [] []) := Scn.start ⟨⟨F, hI, hF, fun k hk => hk.elim⟩, hb2, hb2.size⟩
  have HH0 : Hid (Hld (Ar.init 5000) [] [] 5000) := ⟨by rw [hof_nil]; exact Ar.init_inv (by omega) (by omega), Ar.init_agg _, fun x hx => (by cases hx), rfl⟩
  generalize Ar.init 5000 = A at HS2 HH0
  clear hI hF hb2
  go_wp2_with fail
  refine (awake16_any I HKS.out w2).mono ?_
  rintro e w3 ⟨rfl, hb3⟩
  have HX0 := Lib.hid (HS2.out.calm hb3)
  have HRD0 : Hid (0 ≤ (0 : Int) ∧ (0 : Int) ≤ 0) := ⟨by decide, by decide⟩
  clear hb3 HS2
  go_wp2_with fail
  refine (HLI1.out _ HX0.out.below).mono ?_
  rintro e u1 ⟨a1, c1, rfl, hr, hb⟩
  rw [HLL1.out.1] at hr ⊢
  have HY1 := Lib.hid (HX0.out.row hb hr)
  have HC1 := Lib.hid (row_caps (HY1.out.rows ⟨69, 2, .slice a1 L1 c1, L1, ensV l1⟩ (by simp)))
  clear hr hb HX0
  go_wp2_with fail
  refine (HY1.out.mutF fun F hI hF hG => HK.out.build u1 hI HH0.out.inv HH0.out.agg (fun j => HH0.out.small (by simp) j) (ens_row (w := u1) (B := w.heap.size) (c := c1) HLL1.out.1 (HY1.out.rows ⟨69, 2, .slice a1 L1 c1, L1, ensV l1⟩ (by simp)) HWF1.out) HLL1.out.1 (by have := HLL1.out; omega) (fun h0 b' off' h => hG b' (.inl ⟨⟨69, 2, .slice a1 L1 c1, L1, ensV l1⟩, by simp, own_blk (HY1.out.rows ⟨69, 2, .slice a1 L1 c1, L1, ensV l1⟩ (by simp)) h0 h⟩)) HC1.out.1 HC1.out.2 HRD0.out.1 (by have := HRD0.out; omega)).mono ?_
  rintro e v1 ⟨B1, rd1, hq, hs⟩
  obtain ⟨g0, g1, j1, t1, rfl, hg⟩ := hq.roomD HUP1.out (by have h1 := HH0.out.free; have h2 := HB1.out;  simp only [List.map_cons, List.map_nil, List.map_append, List.sum_append, List.sum_cons, List.sum_nil, List.cons_append, List.nil_append] at h1; omega)
  clear hq
  have HT1 := Lib.hid (hg.tree HUP1.out)
  have HZ1 : Hid (t1.size ≤ 40) := by have h1 := HT1.out.size; have h2 := HB1.out; show _ ≤ _; omega
  have HX1 := Lib.hid hs
  have HH1 := Lib.hid (HH0.out.got hg)
  have HRD1 : Hid (0 ≤ rd1 ∧ rd1 ≤ 100100000) := by have h1 := HRD0.out; have h2 := HB1.out; exact ⟨by omega, by omega⟩
  clear hs hg g0 g1 HY1 HH0
  go_wp2_with fail
  refine (HLI2.out _ HX1.out.below).mono ?_
  rintro e u2 ⟨a2, c2, rfl, hr, hb⟩
  rw [HLL2.out.1] at hr ⊢
  have HY2 := Lib.hid (HX1.out.row hb hr)
  have HC2 := Lib.hid (row_caps (HY2.out.rows ⟨69, 2, .slice a2 L2 c2, L2, ensV l2⟩ (by simp)))
  clear hr hb HX1
  go_wp2_with fail
  refine (HY2.out.mutF fun F hI hF hG => HK.out.build u2 hI HH1.out.inv HH1.out.agg (fun j => HH1.out.small (by simp) j) (ens_row (w := u2) (B := w.heap.size) (c := c2) HLL2.out.1 (HY2.out.rows ⟨69, 2, .slice a2 L2 c2, L2, ensV l2⟩ (by simp)) HWF2.out) HLL2.out.1 (by have := HLL2.out; omega) (fun h0 b' off' h => hG b' (.inl ⟨⟨69, 2, .slice a2 L2 c2, L2, ensV l2⟩, by simp, own_blk (HY2.out.rows ⟨69, 2, .slice a2 L2 c2, L2, ensV l2⟩ (by simp)) h0 h⟩)) HC2.out.1 HC2.out.2 HRD1.out.1 (by have := HRD1.out; omega)).mono ?_
  rintro e v2 ⟨B2, rd2, hq, hs⟩
  obtain ⟨g0, g1, j2, t2, rfl, hg⟩ := hq.roomD HUP2.out (by have h1 := HH1.out.free; have h2 := HB2.out; have := HZ1.out; simp only [List.map_cons, List.map_nil, List.map_append, List.sum_append, List.sum_cons, List.sum_nil, List.cons_append, List.nil_append] at h1; omega)
  clear hq
  replace HT1 := Lib.hid (HT1.out.kept hg.kept hg.inv hg.agg)
  have HT2 := Lib.hid (hg.tree HUP2.out)
  have HZ2 : Hid (t2.size ≤ 40) := by have h1 := HT2.out.size; have h2 := HB2.out; show _ ≤ _; omega
  have HX2 := Lib.hid hs
  have HH2 := Lib.hid (HH1.out.got hg)
  have HRD2 : Hid (0 ≤ rd2 ∧ rd2 ≤ 200200000) := by have h1 := HRD1.out; have h2 := HB2.out; exact ⟨by omega, by omega⟩
  clear hs hg g0 g1 HY2 HH1
  go_wp2_with fail
  refine (HLI3.out _ HX2.out.below).mono ?_
  rintro e u3 ⟨a3, c3, rfl, hr, hb⟩
  rw [HLL3.out.1] at hr ⊢
  have HY3 := Lib.hid (HX2.out.row hb hr)
  have HC3 := Lib.hid (row_caps (HY3.out.rows ⟨69, 2, .slice a3 L3 c3, L3, ensV l3⟩ (by simp)))
  clear hr hb HX2
  go_wp2_with fail
  refine (HY3.out.mutF fun F hI hF hG => HK.out.build u3 hI HH2.out.inv HH2.out.agg (fun j => HH2.out.small (by simp) j) (ens_row (w := u3) (B := w.heap.size) (c := c3) HLL3.out.1 (HY3.out.rows ⟨69, 2, .slice a3 L3 c3, L3, ensV l3⟩ (by simp)) HWF3.out) HLL3.out.1 (by have := HLL3.out; omega) (fun h0 b' off' h => hG b' (.inl ⟨⟨69, 2, .slice a3 L3 c3, L3, ensV l3⟩, by simp, own_blk (HY3.out.rows ⟨69, 2, .slice a3 L3 c3, L3, ensV l3⟩ (by simp)) h0 h⟩)) HC3.out.1 HC3.out.2 HRD2.out.1 (by have := HRD2.out; omega)).mono ?_
  rintro e v3 ⟨B3, rd3, hq, hs⟩
  obtain ⟨g0, g1, j3, t3, rfl, hg⟩ := hq.roomD HUP3.out (by have h1 := HH2.out.free; have h2 := HB3.out; have := HZ1.out; have := HZ2.out; simp only [List.map_cons, List.map_nil, List.map_append, List.sum_append, List.sum_cons, List.sum_nil, List.cons_append, List.nil_append] at h1; omega)
  clear hq
  replace HT1 := Lib.hid (HT1.out.kept hg.kept hg.inv hg.agg)
  replace HT2 := Lib.hid (HT2.out.kept hg.kept hg.inv hg.agg)
  have HT3 := Lib.hid (hg.tree HUP3.out)
  have HZ3 : Hid (t3.size ≤ 40) := by have h1 := HT3.out.size; have h2 := HB3.out; show _ ≤ _; omega
  have HX3 := Lib.hid hs
  have HH3 := Lib.hid (HH2.out.got hg)
  have HRD3 : Hid (0 ≤ rd3 ∧ rd3 ≤ 300300000) := by have h1 := HRD2.out; have h2 := HB3.out; exact ⟨by omega, by omega⟩
  clear hs hg g0 g1 HY3 HH2
  go_wp2_with fail
  refine (HX3.out.mut fun F hI => HKS.out.union 1 _ hI HH3.out.inv (fun j => HH3.out.small (by simp) j) HT2.out HT3.out HWF2.out HWF3.out HRD3.out.1 (by have := HRD3.out; omega) HP1.out.2).mono ?_
  rintro e v4 ⟨B4, rd4, hq, hs⟩
  obtain ⟨g0, g1, j4, t4, rfl, hg⟩ := hq.roomD HP1.out.1 (by have h1 := HH3.out.free; have h2 := set_pos (n := l2.length) (m := l3.length) (by have := HB2.out; have := HB3.out; omega); have h3 := HB2.out; have h4 := HB3.out; have := HZ1.out; have := HZ2.out; have := HZ3.out; simp only [List.map_cons, List.map_nil, List.map_append, List.sum_append, List.sum_cons, List.sum_nil, List.cons_append, List.nil_append] at h1; omega)
  clear hq
  replace HT1 := Lib.hid (HT1.out.kept hg.kept hg.inv hg.agg)
  replace HT2 := Lib.hid (HT2.out.kept hg.kept hg.inv hg.agg)
  replace HT3 := Lib.hid (HT3.out.kept hg.kept hg.inv hg.agg)
  have HT4 := Lib.hid (hg.tree HUP4.out)
  have HZ4 : Hid (t4.size ≤ 80) := by have h1 := HT4.out.size; have h2 := HB4.out; show _ ≤ _; omega
  have HX4 := Lib.hid hs
  have HH4 := Lib.hid (HH3.out.got hg)
  have HRD4 : Hid (0 ≤ rd4 ∧ rd4 ≤ 400400000) := by have h1 := HRD3.out; have h2 := set_bd (n := l2.length) (m := l3.length) (by have := HB2.out; have := HB3.out; omega); exact ⟨by omega, by omega⟩
  clear hs hg g0 g1 HX3 HH3
  go_wp2_with fail
  refine (HX4.out.mut fun F hI => HKS.out.subtract _ hI HH4.out.inv (fun j => HH4.out.small (by simp) j) HT1.out HT4.out HWF1.out HWF4.out HRD4.out.1 (by have := HRD4.out; omega)).mono ?_
  rintro e v5 ⟨B5, rd5, hq, hs⟩
  obtain ⟨g0, g1, j5, t5, rfl, hg⟩ := hq.room (by have h1 := HH4.out.free; have h2 := set_pos (n := l1.length) (m := (unionE l2 l3 1).length) (by have := HB1.out; have := HB4.out; omega); have h3 := HB1.out; have h4 := HB4.out; have := HZ1.out; have := HZ2.out; have := HZ3.out; have := HZ4.out; simp only [List.map_cons, List.map_nil, List.map_append, List.sum_append, List.sum_cons, List.sum_nil, List.cons_append, List.nil_append] at h1; omega)
  clear hq
  replace HT1 := Lib.hid (HT1.out.kept hg.kept hg.inv hg.agg)
  replace HT2 := Lib.hid (HT2.out.kept hg.kept hg.inv hg.agg)
  replace HT3 := Lib.hid (HT3.out.kept hg.kept hg.inv hg.agg)
  replace HT4 := Lib.hid (HT4.out.kept hg.kept hg.inv hg.agg)
  have HT5 := Lib.hid (hg.tree HUP5.out)
  have HZ5 : Hid (t5.size ≤ 40) := by have h1 := HT5.out.size; have h2 := HB5.out; show _ ≤ _; omega
  have HX5 := Lib.hid hs
  have HH5 := Lib.hid (HH4.out.got hg)
  have HRD5 : Hid (0 ≤ rd5 ∧ rd5 ≤ 500500000) := by have h1 := HRD4.out; have h2 := set_bd (n := l1.length) (m := (unionE l2 l3 1).length) (by have := HB1.out; have := HB4.out; omega); exact ⟨by omega, by omega⟩
  clear hs hg g0 g1 HX4 HH4
  go_wp2_with fail
  refine (HX5.out.mut fun F hI => HKS.out.subtract _ hI HH5.out.inv (fun j => HH5.out.small (by simp) j) HT1.out HT2.out HWF1.out HWF2.out HRD5.out.1 (by have := HRD5.out; omega)).mono ?_
  rintro e v6 ⟨B6, rd6, hq, hs⟩
  obtain ⟨g0, g1, j6, t6, rfl, hg⟩ := hq.room (by have h1 := HH5.out.free; have h2 := set_pos (n := l1.length) (m := l2.length) (by have := HB1.out; have := HB2.out; omega); have h3 := HB1.out; have h4 := HB2.out; have := HZ1.out; have := HZ2.out; have := HZ3.out; have := HZ4.out; have := HZ5.out; simp only [List.map_cons, List.map_nil, List.map_append, List.sum_append, List.sum_cons, List.sum_nil, List.cons_append, List.nil_append] at h1; omega)
  clear hq
  replace HT1 := Lib.hid (HT1.out.kept hg.kept hg.inv hg.agg)
  replace HT2 := Lib.hid (HT2.out.kept hg.kept hg.inv hg.agg)
  replace HT3 := Lib.hid (HT3.out.kept hg.kept hg.inv hg.agg)
  replace HT4 := Lib.hid (HT4.out.kept hg.kept hg.inv hg.agg)
  replace HT5 := Lib.hid (HT5.out.kept hg.kept hg.inv hg.agg)
  have HT6 := Lib.hid (hg.tree HUP6.out)
  have HZ6 : Hid (t6.size ≤ 40) := by have h1 := HT6.out.size; have h2 := HB6.out; show _ ≤ _; omega
  have HX6 := Lib.hid hs
  have HH6 := Lib.hid (HH5.out.got hg)
  have HRD6 : Hid (0 ≤ rd6 ∧ rd6 ≤ 600600000) := by have h1 := HRD5.out; have h2 := set_bd (n := l1.length) (m := l2.length) (by have := HB1.out; have := HB2.out; omega); exact ⟨by omega, by omega⟩
  clear hs hg g0 g1 HX5 HH5
  go_wp2_with fail
  refine (HX6.out.mut fun F hI => HKS.out.subtract _ hI HH6.out.inv (fun j => HH6.out.small (by simp) j) HT6.out HT3.out HWF6.out HWF3.out HRD6.out.1 (by have := HRD6.out; omega)).mono ?_
  rintro e v7 ⟨B7, rd7, hq, hs⟩
  obtain ⟨g0, g1, j7, t7, rfl, hg⟩ := hq.room (by have h1 := HH6.out.free; have h2 := set_pos (n := (subE l1 l2).length) (m := l3.length) (by have := HB6.out; have := HB3.out; omega); have h3 := HB6.out; have h4 := HB3.out; have := HZ1.out; have := HZ2.out; have := HZ3.out; have := HZ4.out; have := HZ5.out; have := HZ6.out; simp only [List.map_cons, List.map_nil, List.map_append, List.sum_append, List.sum_cons, List.sum_nil, List.cons_append, List.nil_append] at h1; omega)
  clear hq
  replace HT1 := Lib.hid (HT1.out.kept hg.kept hg.inv hg.agg)
  replace HT2 := Lib.hid (HT2.out.kept hg.kept hg.inv hg.agg)
  replace HT3 := Lib.hid (HT3.out.kept hg.kept hg.inv hg.agg)
  replace HT4 := Lib.hid (HT4.out.kept hg.kept hg.inv hg.agg)
  replace HT5 := Lib.hid (HT5.out.kept hg.kept hg.inv hg.agg)
  replace HT6 := Lib.hid (HT6.out.kept hg.kept hg.inv hg.agg)
  have HT7 := Lib.hid (hg.tree HUP7.out)
  have HZ7 : Hid (t7.size ≤ 40) := by have h1 := HT7.out.size; have h2 := HB7.out; show _ ≤ _; omega
  have HX7 := Lib.hid hs
  have HH7 := Lib.hid (HH6.out.got hg)
  have HRD7 : Hid (0 ≤ rd7 ∧ rd7 ≤ 700700000) := by have h1 := HRD6.out; have h2 := set_bd (n := (subE l1 l2).length) (m := l3.length) (by have := HB6.out; have := HB3.out; omega); exact ⟨by omega, by omega⟩
  clear hs hg g0 g1 HX6 HH6
  have hTT := HT7.out
  rw [HSV.out] at hTT
  replace HT7 := Lib.hid hTT
  clear hTT
  obtain ⟨N1, hN1⟩ : ∃ n, (subE l1 (unionE l2 l3 1)).length = n := ⟨_, rfl⟩
  have HNL1 : Hid ((subE l1 (unionE l2 l3 1)).length = N1 ∧ N1 ≤ 40) := ⟨hN1, by have := HB5.out; omega⟩
  clear hN1
  go_wp2_with fail
  refine (HX7.out.ens (fun F hI => HK.out.list _ hI HT5.out HWF5.out HRD7.out.1 (by have := HRD7.out; omega)) HNL1.out.1).mono ?_
  rintro e wp1 ⟨ap1, cp1, rdp1, rfl, hs, g0, g1⟩
  have hb8 := bulk_bd (n := (subE l1 (unionE l2 l3 1)).length) (m := (subE l1 (unionE l2 l3 1)).length) (by have := HNL1.out; omega) (Nat.le_refl _)
  have HXp1 := Lib.hid hs
  have HRDp1 : Hid (0 ≤ rdp1 ∧ rdp1 ≤ 1101100000 + 12000) := by have h1 := HRD7.out; exact ⟨by omega, by omega⟩
  clear hs g0 g1 hb8 HX7
  go_wp2_with fail
  refine (HXp1.out.ens (fun F hI => HK.out.list _ hI HT7.out HWF5.out HRDp1.out.1 (by have := HRDp1.out; omega)) HNL1.out.1).mono ?_
  rintro e wq1 ⟨aq1, cq1, rdq1, rfl, hs, g0, g1⟩
  have hb8 := bulk_bd (n := (subE l1 (unionE l2 l3 1)).length) (m := (subE l1 (unionE l2 l3 1)).length) (by have := HNL1.out; omega) (Nat.le_refl _)
  have HXq1 := Lib.hid hs
  have HRDq1 : Hid (0 ≤ rdq1 ∧ rdq1 ≤ 1101100000 + 14000) := by have h1 := HRDp1.out; exact ⟨by omega, by omega⟩
  clear hs g0 g1 hb8 HXp1
  go_wp2_with fail
  refine (same_ens (ens_row (w := wq1) (B := w.heap.size) (c := cp1) HNL1.out.1 (HXq1.out.rows ⟨69, 2, .slice ap1 N1 cp1, N1, ensV (subE l1 (unionE l2 l3 1))⟩ (by simp)) HWF5.out) (ens_row (w := wq1) (B := w.heap.size) (c := cq1) HNL1.out.1 (HXq1.out.rows ⟨69, 2, .slice aq1 N1 cq1, N1, ensV (subE l1 (unionE l2 l3 1))⟩ (by simp)) HWF5.out) HNL1.out.1 (by have := HNL1.out; omega)).mono ?_
  rintro e ws1 ⟨rfl, hb⟩
  have HXs1 := Lib.hid (HXq1.out.calm hb)
  clear hb HXq1
  go_wp2_with fail
  refine (HXs1.out.mut fun F hI => HKS.out.intersect 1 _ hI HH7.out.inv (fun j => HH7.out.small (by simp) j) HT1.out HT4.out HWF1.out HWF4.out HRDq1.out.1 (by have := HRDq1.out; omega) HP1.out.2).mono ?_
  rintro e v8 ⟨B8, rd8, hq, hs⟩
  obtain ⟨g0, g1, j8, t8, rfl, hg⟩ := hq.roomD HP1.out.1 (by have h1 := HH7.out.free; have h2 := set_pos (n := l1.length) (m := (unionE l2 l3 1).length) (by have := HB1.out; have := HB4.out; omega); have h3 := HB1.out; have h4 := HB4.out; have := HZ1.out; have := HZ2.out; have := HZ3.out; have := HZ4.out; have := HZ5.out; have := HZ6.out; have := HZ7.out; simp only [List.map_cons, List.map_nil, List.map_append, List.sum_append, List.sum_cons, List.sum_nil, List.cons_append, List.nil_append] at h1; omega)
  clear hq
  replace HT1 := Lib.hid (HT1.out.kept hg.kept hg.inv hg.agg)
  replace HT2 := Lib.hid (HT2.out.kept hg.kept hg.inv hg.agg)
  replace HT3 := Lib.hid (HT3.out.kept hg.kept hg.inv hg.agg)
  replace HT4 := Lib.hid (HT4.out.kept hg.kept hg.inv hg.agg)
  replace HT5 := Lib.hid (HT5.out.kept hg.kept hg.inv hg.agg)
  replace HT6 := Lib.hid (HT6.out.kept hg.kept hg.inv hg.agg)
  replace HT7 := Lib.hid (HT7.out.kept hg.kept hg.inv hg.agg)
  have HT8 := Lib.hid (hg.tree HUP8.out)
  have HZ8 : Hid (t8.size ≤ 40) := by have h1 := HT8.out.size; have h2 := HB8.out; show _ ≤ _; omega
  have HX8 := Lib.hid hs
  have HH8 := Lib.hid (HH7.out.got hg)
  have HRD8 : Hid (0 ≤ rd8 ∧ rd8 ≤ 1300000000) := by have h1 := HRDq1.out; have h2 := set_bd (n := l1.length) (m := (unionE l2 l3 1).length) (by have := HB1.out; have := HB4.out; omega); exact ⟨by omega, by omega⟩
  clear hs hg g0 g1 HXs1 HH7
  go_wp2_with fail
  refine (HX8.out.mut fun F hI => HKS.out.intersect 1 _ hI HH8.out.inv (fun j => HH8.out.small (by simp) j) HT1.out HT2.out HWF1.out HWF2.out HRD8.out.1 (by have := HRD8.out; omega) HP1.out.2).mono ?_
  rintro e v9 ⟨B9, rd9, hq, hs⟩
  obtain ⟨g0, g1, j9, t9, rfl, hg⟩ := hq.roomD HP1.out.1 (by have h1 := HH8.out.free; have h2 := set_pos (n := l1.length) (m := l2.length) (by have := HB1.out; have := HB2.out; omega); have h3 := HB1.out; have h4 := HB2.out; have := HZ1.out; have := HZ2.out; have := HZ3.out; have := HZ4.out; have := HZ5.out; have := HZ6.out; have := HZ7.out; have := HZ8.out; simp only [List.map_cons, List.map_nil, List.map_append, List.sum_append, List.sum_cons, List.sum_nil, List.cons_append, List.nil_append] at h1; omega)
  clear hq
  replace HT1 := Lib.hid (HT1.out.kept hg.kept hg.inv hg.agg)
  replace HT2 := Lib.hid (HT2.out.kept hg.kept hg.inv hg.agg)
  replace HT3 := Lib.hid (HT3.out.kept hg.kept hg.inv hg.agg)
  replace HT4 := Lib.hid (HT4.out.kept hg.kept hg.inv hg.agg)
  replace HT5 := Lib.hid (HT5.out.kept hg.kept hg.inv hg.agg)
  replace HT6 := Lib.hid (HT6.out.kept hg.kept hg.inv hg.agg)
  replace HT7 := Lib.hid (HT7.out.kept hg.kept hg.inv hg.agg)
  replace HT8 := Lib.hid (HT8.out.kept hg.kept hg.inv hg.agg)
  have HT9 := Lib.hid (hg.tree HUP9.out)
  have HZ9 : Hid (t9.size ≤ 40) := by have h1 := HT9.out.size; have h2 := HB9.out; show _ ≤ _; omega
  have HX9 := Lib.hid hs
  have HH9 := Lib.hid (HH8.out.got hg)
  have HRD9 : Hid (0 ≤ rd9 ∧ rd9 ≤ 1500000000) := by have h1 := HRD8.out; have h2 := set_bd (n := l1.length) (m := l2.length) (by have := HB1.out; have := HB2.out; omega); exact ⟨by omega, by omega⟩
  clear hs hg g0 g1 HX8 HH8
  go_wp2_with fail
  refine (HX9.out.mut fun F hI => HKS.out.intersect 1 _ hI HH9.out.inv (fun j => HH9.out.small (by simp) j) HT1.out HT3.out HWF1.out HWF3.out HRD9.out.1 (by have := HRD9.out; omega) HP1.out.2).mono ?_
  rintro e v10 ⟨B10, rd10, hq, hs⟩
  obtain ⟨g0, g1, j10, t10, rfl, hg⟩ := hq.roomD HP1.out.1 (by have h1 := HH9.out.free; have h2 := set_pos (n := l1.length) (m := l3.length) (by have := HB1.out; have := HB3.out; omega); have h3 := HB1.out; have h4 := HB3.out; have := HZ1.out; have := HZ2.out; have := HZ3.out; have := HZ4.out; have := HZ5.out; have := HZ6.out; have := HZ7.out; have := HZ8.out; have := HZ9.out; simp only [List.map_cons, List.map_nil, List.map_append, List.sum_append, List.sum_cons, List.sum_nil, List.cons_append, List.nil_append] at h1; omega)
  clear hq
  replace HT1 := Lib.hid (HT1.out.kept hg.kept hg.inv hg.agg)
  replace HT2 := Lib.hid (HT2.out.kept hg.kept hg.inv hg.agg)
  replace HT3 := Lib.hid (HT3.out.kept hg.kept hg.inv hg.agg)
  replace HT4 := Lib.hid (HT4.out.kept hg.kept hg.inv hg.agg)
  replace HT5 := Lib.hid (HT5.out.kept hg.kept hg.inv hg.agg)
  replace HT6 := Lib.hid (HT6.out.kept hg.kept hg.inv hg.agg)
  replace HT7 := Lib.hid (HT7.out.kept hg.kept hg.inv hg.agg)
  replace HT8 := Lib.hid (HT8.out.kept hg.kept hg.inv hg.agg)
  replace HT9 := Lib.hid (HT9.out.kept hg.kept hg.inv hg.agg)
  have HT10 := Lib.hid (hg.tree HUP10.out)
  have HZ10 : Hid (t10.size ≤ 40) := by have h1 := HT10.out.size; have h2 := HB10.out; show _ ≤ _; omega
  have HX10 := Lib.hid hs
  have HH10 := Lib.hid (HH9.out.got hg)
  have HRD10 : Hid (0 ≤ rd10 ∧ rd10 ≤ 1700000000) := by have h1 := HRD9.out; have h2 := set_bd (n := l1.length) (m := l3.length) (by have := HB1.out; have := HB3.out; omega); exact ⟨by omega, by omega⟩
  clear hs hg g0 g1 HX9 HH9
  go_wp2_with fail
  refine (HX10.out.mut fun F hI => HKS.out.union 1 _ hI HH10.out.inv (fun j => HH10.out.small (by simp) j) HT9.out HT10.out HWF9.out HWF10.out HRD10.out.1 (by have := HRD10.out; omega) HP1.out.2).mono ?_
  rintro e v11 ⟨B11, rd11, hq, hs⟩
  obtain ⟨g0, g1, j11, t11, rfl, hg⟩ := hq.roomD HP1.out.1 (by have h1 := HH10.out.free; have h2 := set_pos (n := (intE l1 l2 1).length) (m := (intE l1 l3 1).length) (by have := HB9.out; have := HB10.out; omega); have h3 := HB9.out; have h4 := HB10.out; have := HZ1.out; have := HZ2.out; have := HZ3.out; have := HZ4.out; have := HZ5.out; have := HZ6.out; have := HZ7.out; have := HZ8.out; have := HZ9.out; have := HZ10.out; simp only [List.map_cons, List.map_nil, List.map_append, List.sum_append, List.sum_cons, List.sum_nil, List.cons_append, List.nil_append] at h1; omega)
  clear hq
  replace HT1 := Lib.hid (HT1.out.kept hg.kept hg.inv hg.agg)
  replace HT2 := Lib.hid (HT2.out.kept hg.kept hg.inv hg.agg)
  replace HT3 := Lib.hid (HT3.out.kept hg.kept hg.inv hg.agg)
  replace HT4 := Lib.hid (HT4.out.kept hg.kept hg.inv hg.agg)
  replace HT5 := Lib.hid (HT5.out.kept hg.kept hg.inv hg.agg)
  replace HT6 := Lib.hid (HT6.out.kept hg.kept hg.inv hg.agg)
  replace HT7 := Lib.hid (HT7.out.kept hg.kept hg.inv hg.agg)
  replace HT8 := Lib.hid (HT8.out.kept hg.kept hg.inv hg.agg)
  replace HT9 := Lib.hid (HT9.out.kept hg.kept hg.inv hg.agg)
  replace HT10 := Lib.hid (HT10.out.kept hg.kept hg.inv hg.agg)
  have HT11 := Lib.hid (hg.tree HUP11.out)
  have HZ11 : Hid (t11.size ≤ 80) := by have h1 := HT11.out.size; have h2 := HB11.out; show _ ≤ _; omega
  have HX11 := Lib.hid hs
  have HH11 := Lib.hid (HH10.out.got hg)
  have HRD11 : Hid (0 ≤ rd11 ∧ rd11 ≤ 1900000000) := by have h1 := HRD10.out; have h2 := set_bd (n := (intE l1 l2 1).length) (m := (intE l1 l3 1).length) (by have := HB9.out; have := HB10.out; omega); exact ⟨by omega, by omega⟩
  clear hs hg g0 g1 HX10 HH10
  have hTT := HT11.out
  rw [HMP.out] at hTT
  replace HT11 := Lib.hid hTT
  clear hTT
  obtain ⟨N2, hN2⟩ : ∃ n, (intE l1 (unionE l2 l3 1) 1).length = n := ⟨_, rfl⟩
  have HNL2 : Hid ((intE l1 (unionE l2 l3 1) 1).length = N2 ∧ N2 ≤ 40) := ⟨hN2, by have := HB8.out; omega⟩
  clear hN2
  go_wp2_with fail
  refine (HX11.out.ens (fun F hI => HK.out.list _ hI HT8.out HWF8.out HRD11.out.1 (by have := HRD11.out; omega)) HNL2.out.1).mono ?_
  rintro e wp2 ⟨ap2, cp2, rdp2, rfl, hs, g0, g1⟩
  have hb8 := bulk_bd (n := (intE l1 (unionE l2 l3 1) 1).length) (m := (intE l1 (unionE l2 l3 1) 1).length) (by have := HNL2.out; omega) (Nat.le_refl _)
  have HXp2 := Lib.hid hs
  have HRDp2 : Hid (0 ≤ rdp2 ∧ rdp2 ≤ 2000000000 + 22000) := by have h1 := HRD11.out; exact ⟨by omega, by omega⟩
  clear hs g0 g1 hb8 HX11
  go_wp2_with fail
  refine (HXp2.out.ens (fun F hI => HK.out.list _ hI HT11.out HWF8.out HRDp2.out.1 (by have := HRDp2.out; omega)) HNL2.out.1).mono ?_
  rintro e wq2 ⟨aq2, cq2, rdq2, rfl, hs, g0, g1⟩
  have hb8 := bulk_bd (n := (intE l1 (unionE l2 l3 1) 1).length) (m := (intE l1 (unionE l2 l3 1) 1).length) (by have := HNL2.out; omega) (Nat.le_refl _)
  have HXq2 := Lib.hid hs
  have HRDq2 : Hid (0 ≤ rdq2 ∧ rdq2 ≤ 2000000000 + 24000) := by have h1 := HRDp2.out; exact ⟨by omega, by omega⟩
  clear hs g0 g1 hb8 HXp2
  go_wp2_with fail
  refine (same_ens (ens_row (w := wq2) (B := w.heap.size) (c := cp2) HNL2.out.1 (HXq2.out.rows ⟨69, 2, .slice ap2 N2 cp2, N2, ensV (intE l1 (unionE l2 l3 1) 1)⟩ (by simp)) HWF8.out) (ens_row (w := wq2) (B := w.heap.size) (c := cq2) HNL2.out.1 (HXq2.out.rows ⟨69, 2, .slice aq2 N2 cq2, N2, ensV (intE l1 (unionE l2 l3 1) 1)⟩ (by simp)) HWF8.out) HNL2.out.1 (by have := HNL2.out; omega)).mono ?_
  rintro e ws2 ⟨rfl, hb⟩
  have HXs2 := Lib.hid (HXq2.out.calm hb)
  clear hb HXq2
  have HRI : Hid (∀ x ∈ [] ++ [j1] ++ [j2] ++ [j3] ++ [j4] ++ [j5] ++ [j6] ++ [j7] ++ [j8] ++ [j9] ++ [j10] ++ [j11], x < 4294967296) := fun x hx => by
    rcases HH11.out.on x hx with h | h
    · omega
    · have := HH11.out.inv.ok.on x h; have := HH11.out.inv.ok.cap2; omega
  have HXB := Lib.hid (HXs2.out.box #[.int .u32 (j1 : Int), .int .u32 (j2 : Int), .int .u32 (j3 : Int), .int .u32 (j4 : Int), .int .u32 (j5 : Int), .int .u32 (j6 : Int), .int .u32 (j7 : Int), .int .u32 (j8 : Int), .int .u32 (j9 : Int), .int .u32 (j10 : Int), .int .u32 (j11 : Int)] 26)
  have HAT := Lib.hid (us_at ws2 26 ([] ++ [j1] ++ [j2] ++ [j3] ++ [j4] ++ [j5] ++ [j6] ++ [j7] ++ [j8] ++ [j9] ++ [j10] ++ [j11]) #[.int .u32 (j1 : Int), .int .u32 (j2 : Int), .int .u32 (j3 : Int), .int .u32 (j4 : Int), .int .u32 (j5 : Int), .int .u32 (j6 : Int), .int .u32 (j7 : Int), .int .u32 (j8 : Int), .int .u32 (j9 : Int), .int .u32 (j10 : Int), .int .u32 (j11 : Int)] rfl HRI.out)
  go_wp2_with fail
  refine (HXB.out.sound HCHK.out HH11.out.inv HH11.out.agg HAT.out (L := 11) rfl (by decide) HH11.out.on).mono ?_
  rintro e v13 ⟨rfl, hb⟩
  have HB := Lib.hid (HXB.out.calm hb).below
  clear hb HXB HAT HXs2
  go_wp2_with fail
  go_ret
  exact ⟨rfl, HB.out⟩
end Go.Proofs.YtfihklpofmcfgaaGreat
