/- Of the proofs of SetopsAlgebra, SetopsDistribute: ArOk6, DumpB, DumpR, DumpE, ArOkA, SoundP, RefNum, RefNode. -/
import Derived.Test.YtfihklpofmcfgaaGreatB162
import Derived.Deep.QuietTactic
import Derived.BigQuiet
import Derived.BigGuardPart
import Derived.Deep.CutRange
import Derived.Deep.LoopGhost
import Derived.Maps.AppendAt
import Derived.Laws.Rows
import Derived.Laws.CopyOwn
import Derived.Deep.DeepCutAuto
import Derived.RegionTactic
import Derived.Laws.NewBlocks
set_option linter.unusedVariables false
namespace Go.Proofs.YtfihklpofmcfgaaGreat
open Go.RowKit
def Nd.base (key val : Int) (l r : Nat) : Nd := ⟨key, val, l, r, 1, val, val, val⟩
theorem add_node {A : Ar} (hok : A.σ.Ok) (ha : A.Agg) (hoff : ∀ i, A.σ.on i = false → A.nd i = Nd.zero) {key val : Int} {l r : Nat} (hl : A.Idx l) (hr : A.Idx r) (hv1 : -9223372036854775808 ≤ val) (hv2 : val ≤ 9223372036854775807) :
    ((Nd.base key val l r).add (A.nd l)).add (A.nd r) = A.node key val l r := by
  have h0 : A.nd 0 = Nd.zero := hoff 0 (by cases hq : A.σ.on 0 with | false => rfl | true => have := hok.on 0 hq; omega)
  have hsz : ∀ i, A.Idx i → (i = 0 ∧ (A.nd i).size = 0 ∧ A.nd i = Nd.zero) ∨ (i ≠ 0 ∧ (A.nd i).size ≠ 0) := fun i hi => by
    by_cases e : i = 0
    · subst e; exact .inl ⟨rfl, by rw [h0]; rfl, h0⟩
    · rcases hi with h1 | h1
      · exact absurd h1 e
      · have := (ha.size i h1).1; exact .inr ⟨e, by omega⟩
  have hw : IntKind.i64.wrap val = val := by rw [IntKind.wrap_i64]; omega
  unfold Ar.node Ar.sz Ar.sm Ar.low Ar.high Nd.add Nd.base
  rcases hsz l hl with ⟨rfl, e1, e2⟩ | ⟨e1, e2⟩ <;> rcases hsz r hr with ⟨rfl, e3, e4⟩ | ⟨e3, e4⟩
  · simp [e1, hw]
  · simp [e1, e3, e4, hw]
  · simp [e3, e1, e2]
    rw [IntKind.wrap_i64, IntKind.wrap_i64]; omega
  · simp [e1, e2, e3, e4]
theorem add_size (x c : Nd) : (x.add c).size = x.size + c.size := by
  unfold Nd.add
  split
  · omega
  · rfl
theorem node_sizes {A : Ar} (ha : A.Agg) (hoff : ∀ i, A.σ.on i = false → A.nd i = Nd.zero) (i : Nat) : 0 ≤ (A.nd i).size ∧ (A.nd i).size ≤ 2147483647 := by
  cases ho : A.σ.on i with
  | true => have := ha.size i ho; omega
  | false => rw [hoff i ho]; exact ⟨Int.le_refl 0, by decide⟩
theorem row8v {w : World} {b : Nat} {t : TypeId} {x : Nd} (h : w.heap[b]? = some (.cells (nodA x) t (0, 0))) :
    w.cell? ⟨b, 0, none⟩ = some (.int .i64 x.key) ∧ w.cell? ⟨b, 1, none⟩ = some (.int .i64 x.val) ∧ w.cell? ⟨b, 2, none⟩ = some (.int .u32 (x.left : Int)) ∧ w.cell? ⟨b, 3, none⟩ = some (.int .u32 (x.right : Int)) ∧ w.cell? ⟨b, 4, none⟩ = some (.int .i64 x.size) ∧ w.cell? ⟨b, 5, none⟩ = some (.int .i64 x.sum) ∧ w.cell? ⟨b, 6, none⟩ = some (.int .i64 x.mn) ∧ w.cell? ⟨b, 7, none⟩ = some (.int .i64 x.mx) := row8n h
section
variable {I : Impl} {w w' : World} {ab : Nat} {sp : Addr} {A A' : Ar} {rd : Int} {ca : Option Addr} {cc g : Nat} {Fs Fs' : Nat → Prop}
def AsmRes (w : World) (A : Ar) (key val : Int) (l r : Nat) (e : Ending) (w' : World) : Prop :=
  ((A.Idx l ∧ A.Idx r ∧ (A.node key val l r).size ≤ 2147483647) ∧ e = .returned (.tuple #[.agg (nodA (A.node key val l r)), .bool true]) ∨ ¬ (A.Idx l ∧ A.Idx r ∧ (A.node key val l r).size ≤ 2147483647) ∧ e = .returned (.tuple #[.agg (nodA Nd.zero), .bool false])) ∧ Below w.heap.size w w'
theorem idx_true {A : Ar} {i : Nat} (h : (decide (i = 0) || A.σ.on i) = true) : A.Idx i := by
  simp at h
  exact h
theorem idx_false {A : Ar} {i : Nat} (h : (decide (i = 0) || A.σ.on i) = false) : ¬ A.Idx i := by
  simp at h
  rintro (e | e)
  · exact h.1 e
  · rw [h.2] at e; cases e
theorem trans_of' {w a b : World} (h : Below w.heap.size w a) (hb : Below a.heap.size a b) : Below w.heap.size w b := h.trans (hb.mono h.size)
theorem below_blk {w w' : World} {p : Nat} (h : Below p w w') (hp : w.heap.size = p) : Below w.heap.size w w' := by rw [hp]; exact h
theorem keep_blk {w w' : World} {b : Nat} {o : Obj} (h : w.heap[b]? = some o) (hb : Below w.heap.size w w') : w'.heap[b]? = some o := (hb.block b (Array.getElem?_eq_some_iff.1 h).1).trans h
set_option maxHeartbeats 4000000 in
set_option maxRecDepth 100000 in
theorem a_assemble (h : LieA I w ab sp A rd (some ⟨g, 0, none⟩) cc Fs) (ha : A.Agg) (key val : Int) (l r : Nat) (hl : l < 4294967296) (hr : r < 4294967296) (hv1 : -9223372036854775808 ≤ val) (hv2 : val ≤ 9223372036854775807) :
    Calls Tryz.prog 92 #[.pointer (some ⟨ab, 0, none⟩), .int .i64 key, .int .i64 val, .int .u32 (l : Int), .int .u32 (r : Int)] w (AsmRes w A key val l r) := by
  have HU : Hid _ := Lib.hid Tryz.underlying81
  have HIN := Lib.hid nodInfo
  have hb1 := below_al w (Obj.cells (nodA Nd.zero) 81)
  have HP := Lib.hid (heap_alloc_new w (Obj.cells (nodA Nd.zero) 81))
  have HB1 := Lib.hid hb1
  have H2 := Lib.hid (h.below hb1)
  have HOK := Lib.hid h.ok
  have hoff : ∀ i, A.σ.on i = false → A.nd i = Nd.zero := fun i hi => (h.off i hi).2
  have HADD : Hid (A.Idx l → A.Idx r → ((Nd.base key val l r).add (A.nd l)).add (A.nd r) = A.node key val l r) := fun h1 h2 => add_node h.ok ha hoff h1 h2 hv1 hv2
  have HSL := Lib.hid (node_sizes ha hoff l)
  have HSR := Lib.hid (node_sizes ha hoff r)
  clear h hb1 ha hoff
  go_enter Tryz.func92, Tryz.ntmps92
  go_upto_region 1 with fail
  rw [show #[Value.int .i64 0, .int .i64 0, .int .u32 0, .int .u32 0, .int .i64 0, .int .i64 0, .int .i64 0, .int .i64 0] = nodA Nd.zero from rfl]
  generalize w.alloc (Obj.cells (nodA Nd.zero) 81) = w1 at HP HB1 H2 ⊢
  obtain ⟨p, hp⟩ : ∃ p, w.heap.size = p := ⟨_, rfl⟩
  rw [hp] at HP HB1 ⊢
  have HPP := Lib.hid hp
  clear hp
  go_wp2_with fail
  refine (a_child H2.out l hl).mono ?_
  rintro e w2 ⟨rfl, hb2⟩
  have HP2 := Lib.hid (keep_blk HP.out hb2)
  have H3 := Lib.hid (H2.out.below hb2)
  have HBA := Lib.hid (trans_of' (below_blk HB1.out HPP.out) hb2)
  clear hb2
  obtain ⟨bl, hbl⟩ : ∃ bl, (decide (l = 0) || A.σ.on l) = bl := ⟨_, rfl⟩
  rw [hbl]
  have HBL := Lib.hid hbl
  clear hbl
  have hal3 := below_al w2 (Obj.cells (nodA (A.nd l)) 81)
  have hx3 := heap_alloc_new w2 (Obj.cells (nodA (A.nd l)) 81)
  have H4 := Lib.hid (H3.out.below hal3)
  have HP3 := Lib.hid (keep_blk HP2.out hal3)
  have HBB := Lib.hid (trans_of' HBA.out hal3)
  have HX3 := Lib.hid hx3
  clear hal3 hx3
  unfold nodA
  go_upto_region 2 with fail
  unfold nodA at HX3 H4 HP3 HBB
  generalize w2.alloc _ = w3 at HX3 H4 HP3 HBB ⊢
  obtain ⟨q, hq⟩ : ∃ q, w2.heap.size = q := ⟨_, rfl⟩
  rw [hq] at HX3 ⊢
  have HQ := Lib.hid hq
  clear hq
  go_wp2_with fail
  refine (a_child H4.out r hr).mono ?_
  rintro e w4 ⟨rfl, hb4⟩
  have HP4 := Lib.hid (keep_blk HP3.out hb4)
  have HX4 := Lib.hid (keep_blk HX3.out hb4)
  have HBC := Lib.hid (trans_of' HBB.out hb4)
  clear hb4
  obtain ⟨br, hbr⟩ : ∃ br, (decide (r = 0) || A.σ.on r) = br := ⟨_, rfl⟩
  rw [hbr]
  have HBR := Lib.hid hbr
  clear hbr
  have hal5 := below_al w4 (Obj.cells (nodA (A.nd r)) 81)
  have hx5 := heap_alloc_new w4 (Obj.cells (nodA (A.nd r)) 81)
  have HP5 := Lib.hid (keep_blk HP4.out hal5)
  have HY5 := Lib.hid (keep_blk HX4.out hal5)
  have HBD := Lib.hid (trans_of' HBC.out hal5)
  have HX5 := Lib.hid hx5
  clear hal5 hx5
  unfold nodA
  go_upto_region 3 with fail
  unfold nodA at HX5 HP5 HY5 HBD
  generalize w4.alloc _ = w5 at HX5 HP5 HY5 HBD ⊢
  obtain ⟨q2, hq2⟩ : ∃ q2, w4.heap.size = q2 := ⟨_, rfl⟩
  rw [hq2] at HX5 ⊢
  have HQ2 := Lib.hid hq2
  clear hq2
  have HSZ : Hid (A.Idx l → A.Idx r → (A.node key val l r).size = 1 + (A.nd l).size + (A.nd r).size) := fun h1 h2 => by
    rw [← HADD.out h1 h2, add_size, add_size]; rfl
  cases bl with
  | false =>
    go_wp2_with (refine wpList_store_row rfl 81 (.tmp 10) (.tmp 43) rfl p (nodA Nd.zero) rfl rfl 81 _ HP5.out HIN.out rfl (nod_ones _) ?_)
    refine bodyPost_ret (results_row_tmp rfl _ _ p 81 (nodA Nd.zero) (0, 0) _ rfl (setRow_heap _ _ _ _ _ _ HP5.out) HU.out rfl HIN.out) rfl ?_
    have hpp := HPP.out
    exact ⟨.inr ⟨fun h => idx_false HBL.out h.1, rfl⟩, below_row HBD.out (by omega)⟩
  | true =>
    cases br with
    | false =>
      go_wp2_with (refine wpList_store_row rfl 81 (.tmp 10) (.tmp 43) rfl p (nodA Nd.zero) rfl rfl 81 _ HP5.out HIN.out rfl (nod_ones _) ?_)
      refine bodyPost_ret (results_row_tmp rfl _ _ p 81 (nodA Nd.zero) (0, 0) _ rfl (setRow_heap _ _ _ _ _ _ HP5.out) HU.out rfl HIN.out) rfl ?_
      have hpp := HPP.out
      exact ⟨.inr ⟨fun h => idx_false HBR.out h.2.1, rfl⟩, below_row HBD.out (by omega)⟩
    | true =>
      obtain ⟨_, _, _, _, y4, _⟩ := row8v (x := A.nd l) HY5.out
      obtain ⟨_, _, _, _, z4, _⟩ := row8v (x := A.nd r) HX5.out
      obtain ⟨sl0, sl1⟩ := HSL.out
      obtain ⟨sr0, sr1⟩ := HSR.out
      by_cases hs : (A.nd l).size + (A.nd r).size ≤ 2147483646
      · have HS := Lib.hid hs
        have hg : decide (2147483646 - (A.nd r).size < (A.nd l).size) = false := decide_eq_false (by omega)
        clear hs
        go_upto_region 6 with fail
        have hal6 := below_al w5 (Obj.cells (nodA (Nd.base key val l r)) 81)
        have hx6 := heap_alloc_new w5 (Obj.cells (nodA (Nd.base key val l r)) 81)
        have HP6 := Lib.hid (keep_blk HP5.out hal6)
        have HY6 := Lib.hid (keep_blk HY5.out hal6)
        have HX6 := Lib.hid (keep_blk HX5.out hal6)
        have HBE := Lib.hid (trans_of' HBD.out hal6)
        have HZ6 := Lib.hid hx6
        have n1 : Hid (p < w5.heap.size ∧ q < w5.heap.size ∧ q2 < w5.heap.size) := ⟨(Array.getElem?_eq_some_iff.1 HP5.out).1, (Array.getElem?_eq_some_iff.1 HY5.out).1, (Array.getElem?_eq_some_iff.1 HX5.out).1⟩
        clear hal6 hx6 y4 z4
        rw [show #[Value.int .i64 key, .int .i64 val, .int .u32 (l : Int), .int .u32 (r : Int), .int .i64 1, .int .i64 val, .int .i64 val, .int .i64 val] = nodA (Nd.base key val l r) from rfl]
        generalize w5.alloc (Obj.cells (nodA (Nd.base key val l r)) 81) = w6 at HP6 HY6 HX6 HBE HZ6 ⊢
        obtain ⟨q3, hq3⟩ : ∃ q3, w5.heap.size = q3 := ⟨_, rfl⟩
        rw [hq3] at HZ6 n1 ⊢
        have HQ3 := Lib.hid hq3
        clear hq3
        obtain ⟨y0, y1, y2, y3, y4, y5, y6, y7⟩ := row8v (x := A.nd l) HY6.out
        go_wp2_with fail
        refine (a_addAgg _ q3 (Nd.base key val l r) (A.nd l) HZ6.out (show (0 : Int) ≤ 1 by decide) (show (1 : Int) ≤ 2147483647 by decide) sl0 sl1).mono ?_
        rintro e w7 ⟨⟨v7, rfl⟩, hZ7, ha7⟩
        have hk7 : ∀ b, b < q3 → b < w6.heap.size → w7.heap[b]? = w6.heap[b]? := fun b hb hb2 => ha7.block b hb2 (by omega)
        have HZ7 := Lib.hid hZ7
        have n6 : Hid (p < w6.heap.size ∧ q2 < w6.heap.size) := ⟨(Array.getElem?_eq_some_iff.1 HP6.out).1, (Array.getElem?_eq_some_iff.1 HX6.out).1⟩
        have HP7 := Lib.hid ((hk7 p n1.out.1 n6.out.1).trans HP6.out)
        have HX7 := Lib.hid ((hk7 q2 n1.out.2.2 n6.out.2).trans HX6.out)
        have HBF : Hid (Below p w w7) := by
          have h9 := HBE.out
          rw [HPP.out] at h9
          exact ha7.below h9 (by have := h9.size; rw [HPP.out] at this; exact this) (fun k hk => by have := n1.out.1; omega)
        clear ha7 hk7 y0 y1 y2 y3 y4 y5 y6 y7 hZ7
        obtain ⟨z0, z1, z2, z3, z4, z5, z6, z7⟩ := row8v (x := A.nd r) HX7.out
        go_wp2_with fail
        have hsz1 := add_size (Nd.base key val l r) (A.nd l)
        have hb1 : (Nd.base key val l r).size = 1 := rfl
        refine (a_addAgg _ q3 ((Nd.base key val l r).add (A.nd l)) (A.nd r) HZ7.out (by omega) (by have := HS.out; omega) sr0 sr1).mono ?_
        rintro e w8 ⟨⟨v8, rfl⟩, hZ8, ha8⟩
        have n7 : Hid (p < w7.heap.size) := (Array.getElem?_eq_some_iff.1 HP7.out).1
        have HP8 := Lib.hid ((ha8.block p n7.out (by have := n1.out.1; omega)).trans HP7.out)
        have HBG : Hid (Below p w w8) := by
          have h9 := HBF.out
          exact ha8.below h9 (by have := h9.size; rw [HPP.out] at this; exact this) (fun k hk => by have := n1.out.1; omega)
        have HID := Lib.hid (idx_true HBL.out)
        have HIE := Lib.hid (idx_true HBR.out)
        rw [HADD.out HID.out HIE.out] at hZ8
        have HZ8 := Lib.hid hZ8
        clear ha8 hZ8 z0 z1 z2 z3 z4 z5 z6 z7 hsz1 hb1
        obtain ⟨z0, z1, z2, z3, z4, z5, z6, z7⟩ := row8v HZ8.out
        go_wp2_with (refine wpList_store_row rfl 81 (.tmp 10) (.tmp 56) rfl p (nodA (A.node key val l r)) rfl rfl 81 _ HP8.out HIN.out rfl (nod_ones _) ?_)
        refine bodyPost_ret (results_row_tmp rfl _ _ p 81 (nodA (A.node key val l r)) (0, 0) _ rfl (setRow_heap _ _ _ _ _ _ HP8.out) HU.out rfl HIN.out) rfl ?_
        have hpp := HPP.out
        exact ⟨.inl ⟨⟨HID.out, HIE.out, by rw [HSZ.out HID.out HIE.out]; have := HS.out; omega⟩, rfl⟩, below_row (by rw [hpp]; exact HBG.out) (by omega)⟩
      · have HS := Lib.hid hs
        have hg : 2147483646 - (A.nd r).size < (A.nd l).size := by omega
        clear hs
        go_wp2_with (refine wpList_store_row rfl 81 (.tmp 10) (.tmp 43) rfl p (nodA Nd.zero) rfl rfl 81 _ HP5.out HIN.out rfl (nod_ones _) ?_)
        refine bodyPost_ret (results_row_tmp rfl _ _ p 81 (nodA Nd.zero) (0, 0) _ rfl (setRow_heap _ _ _ _ _ _ HP5.out) HU.out rfl HIN.out) rfl ?_
        have hpp := HPP.out
        exact ⟨.inr ⟨fun h => by have h1 := HSZ.out h.1 h.2.1; have h2 := h.2.2; have h3 := HS.out; omega, rfl⟩, below_row HBD.out (by omega)⟩
end
/-- slot i is taken, with a node and one reference -/
def Ar.took (A : Ar) (i : Nat) (t : List Nat) (x : Nd) : Ar := ⟨A.σ.take i t, fun j => if j = i then x else A.nd j, fun j => if j = i then 1 else A.cnt j⟩
theorem cels_patch (A A' : Ar) {j : Nat} (hc : A'.σ.cap = A.σ.cap) (hj : j < A.σ.cap) (hn : ∀ i, i ≠ j + 1 → A'.nd i = A.nd i) (hcn : ∀ i, i ≠ j + 1 → A'.cnt i = A.cnt i) : patch (celsV A) (j * 9) (celV A' (j + 1)) = celsV A' := by
  refine cels_ext (by rw [patch_len, cels_len, hc]) fun i k hi hk => ?_
  rw [hc] at hi
  rw [patch_at, cel_len, cels_len]
  by_cases e : i = j
  · subst e
    rw [if_pos (by omega), show i * 9 + k - i * 9 = k by omega]
  · rw [if_neg (by omega), cels_at A hi hk]
    unfold celV
    rw [hn (i + 1) (by omega), hcn (i + 1) (by omega)]
theorem ret_σ (A : Ar) (l : Nat) : (A.ret l).σ = A.σ := by unfold Ar.ret; split <;> rfl
theorem ret_nd (A : Ar) (l : Nat) : (A.ret l).nd = A.nd := by unfold Ar.ret; split <;> rfl
theorem ret_cnt (A : Ar) (l m : Nat) : (A.ret l).cnt m = A.cnt m + (if l ≠ 0 ∧ m = l then 1 else 0) := by
  unfold Ar.ret Ar.inc
  by_cases h : l = 0
  · subst h; simp
  · rw [if_neg h]
    show (if m = l then A.cnt l + 1 else A.cnt m) = _
    by_cases e : m = l
    · subst e; simp [h]
    · simp [e]
theorem ar_ext {A B : Ar} (h1 : A.σ = B.σ) (h2 : A.nd = B.nd) (h3 : ∀ m, A.cnt m = B.cnt m) : A = B := by
  cases A; cases B
  have h4 := funext h3
  simp only at h1 h2 h4
  subst h1 h2 h4
  rfl
theorem made_took (A : Ar) {i l r : Nat} (t : List Nat) (key val : Int) (hl : l ≠ i) (hr : r ≠ i) (hi : i ≠ 0) : ((A.took i t (A.node key val l r)).ret l).ret r = A.made i t (A.node key val l r) := by
  refine ar_ext (by rw [ret_σ, ret_σ]; rfl) (by rw [ret_nd, ret_nd]; rfl) fun m => ?_
  rw [ret_cnt, ret_cnt]
  show (if m = i then (1 : Int) else A.cnt m) + _ + _ = if m = i then 1 else if m = 0 then A.cnt 0 else A.cnt m + (hit l m : Int) + (hit r m : Int)
  unfold hit
  by_cases e : m = i
  · subst e
    rw [if_pos rfl, if_pos rfl, if_neg (fun h => hl h.2.symm), if_neg (fun h => hr h.2.symm)]; rfl
  · rw [if_neg e, if_neg e]
    by_cases e0 : m = 0
    · subst e0
      rw [if_pos rfl, if_neg (fun h => h.1 h.2.symm), if_neg (fun h => h.1 h.2.symm)]; omega
    · rw [if_neg e0]
      have k1 : (if l ≠ 0 ∧ m = l then (1 : Int) else 0) = ((if l = m then 1 else 0 : Nat) : Int) := by
        by_cases e1 : l = m
        · subst e1; simp [e0]
        · simp [e1]; exact fun _ h => e1 h.symm
      have k2 : (if r ≠ 0 ∧ m = r then (1 : Int) else 0) = ((if r = m then 1 else 0 : Nat) : Int) := by
        by_cases e1 : r = m
        · subst e1; simp [e0]
        · simp [e1]; exact fun _ h => e1 h.symm
      rw [k1, k2]
theorem cnt_le {A : Ar} {held : Nat → Nat} (h : A.Inv [] held) (hm : ∀ j, held j ≤ 1048576) {i : Nat} (hi : A.σ.on i = true) : 1 ≤ A.cnt i ∧ A.cnt i ≤ 1179648 := by
  have h1 := h.cnt i hi
  have h2 := refs_le A i
  have h3 := hm i
  have h4 := h.ok.cap2
  have h5 := h.pos i hi
  simp at h1
  omega
theorem sets9 (w : World) (g o : Nat) (v0 v1 v2 v3 v4 v5 v6 v7 v8 : Value) : ((((((((w.setCell ⟨g, o, none⟩ v0).setCell ⟨g, o + 1, none⟩ v1).setCell ⟨g, o + 2, none⟩ v2).setCell ⟨g, o + 3, none⟩ v3).setCell ⟨g, o + 4, none⟩ v4).setCell ⟨g, o + 5, none⟩ v5).setCell ⟨g, o + 6, none⟩ v6).setCell ⟨g, o + 7, none⟩ v7).setCell ⟨g, o + 8, none⟩ v8 = w.setCells g o [v0, v1, v2, v3, v4, v5, v6, v7, v8] := rfl
section
variable {I : Impl} {w w' : World} {ab : Nat} {sp : Addr} {A A' : Ar} {rd : Int} {ca : Option Addr} {cc g : Nat} {Fs Fs' : Nat → Prop}
def ARef (I : Impl) (w : World) (ab : Nat) (sp : Addr) (A : Ar) (rd : Int) (g cc : Nat) (Fs : Nat → Prop) (e : Ending) (w' : World) : Prop :=
  (∃ v, e = .returned v) ∧ LieA I w' ab sp A rd (some ⟨g, 0, none⟩) cc Fs ∧ Alters (FootA ab (some ⟨g, 0, none⟩) Fs) (FootA ab (some ⟨g, 0, none⟩) Fs) w w'
theorem a_addRefI (h : LieA I w ab sp A rd (some ⟨g, 0, none⟩) cc Fs) (i : Nat) (hi : A.Idx i) (hc : A.σ.on i = true → A.cnt i < 4611686018427387904) :
    Calls Tryz.prog 66 #[.pointer (some ⟨ab, 0, none⟩), .int .u32 (i : Int)] w (ARef I w ab sp (A.ret i) rd g cc Fs) := by
  by_cases h0 : i = 0
  · subst h0
    have ho : A.σ.on 0 = false := by
      cases hq : A.σ.on 0 with
      | false => rfl
      | true => have := h.ok.on 0 hq; omega
    refine (a_addRef_off h 0 (by omega) ho).mono fun e w1 ⟨h1, hb⟩ => ⟨h1, ?_, .of_below hb⟩
    unfold Ar.ret
    rw [if_pos rfl]
    exact h.below hb
  · have hon : A.σ.on i = true := by rcases hi with e | e; exact absurd e h0; exact e
    have hle := h.ok.on i hon
    obtain ⟨j, rfl⟩ : ∃ j, i = j + 1 := ⟨i - 1, by omega⟩
    refine (a_addRef h j hon (hc hon)).mono fun e w1 ⟨h1, h2, h3⟩ => ⟨h1, ?_, h3⟩
    unfold Ar.ret
    rw [if_neg h0]
    exact h2
def AMake (I : Impl) (w : World) (ab : Nat) (sp : Addr) (A : Ar) (rd : Int) (g cc : Nat) (Fs : Nat → Prop) (key val : Int) (l r : Nat) (e : Ending) (w' : World) : Prop :=
  ∃ Fs', Alters (FootA ab (some ⟨g, 0, none⟩) Fs) (FootA ab (some ⟨g, 0, none⟩) Fs') w w' ∧
    (¬ (A.Idx l ∧ A.Idx r ∧ (A.node key val l r).size ≤ 2147483647) → e = .returned (.tuple #[.int .u32 0, .int .i64 1]) ∧ LieA I w' ab sp A rd (some ⟨g, 0, none⟩) cc Fs') ∧
    (A.Idx l ∧ A.Idx r ∧ (A.node key val l r).size ≤ 2147483647 → A.σ.free = [] → e = .returned (.tuple #[.int .u32 0, .int .i64 2]) ∧ LieA I w' ab sp A rd (some ⟨g, 0, none⟩) cc Fs') ∧
    (A.Idx l ∧ A.Idx r ∧ (A.node key val l r).size ≤ 2147483647 → ∀ i t, A.σ.free = i :: t → e = .returned (.tuple #[.int .u32 (i : Int), .int .i64 0]) ∧ LieA I w' ab sp (A.made i t (A.node key val l r)) rd (some ⟨g, 0, none⟩) cc Fs')
set_option maxHeartbeats 4000000 in
set_option maxRecDepth 100000 in
theorem a_make (h : LieA I w ab sp A rd (some ⟨g, 0, none⟩) cc Fs) (ha : A.Agg) (key val : Int) (l r : Nat) (hl : l < 4294967296) (hr : r < 4294967296) (hv1 : -9223372036854775808 ≤ val) (hv2 : val ≤ 9223372036854775807) (hcnt : ∀ i, A.σ.on i = true → 1 ≤ A.cnt i ∧ A.cnt i ≤ 1179648) :
    Calls Tryz.prog 65 #[.pointer (some ⟨ab, 0, none⟩), .int .i64 key, .int .i64 val, .int .u32 (l : Int), .int .u32 (r : Int)] w (AMake I w ab sp A rd g cc Fs key val l r) := by
  have HASM := Lib.hid (a_assemble h ha key val l r hl hr hv1 hv2)
  have HH := Lib.hid h
  have HCNT := Lib.hid hcnt
  clear h ha hcnt
  go_enter Tryz.func65, Tryz.ntmps65
  go_wp2_with fail
  refine HASM.out.mono ?_
  rintro e w1 ⟨hor, hb1⟩
  have HB1 := Lib.hid hb1
  have H1 := Lib.hid (HH.out.below hb1)
  clear HASM hb1
  rcases hor with ⟨hok, rfl⟩ | ⟨hno, rfl⟩
  · have HOK := Lib.hid hok
    clear hok
    have hal2 := below_al w1 (Obj.cells (nodA (A.node key val l r)) 81)
    have hx2 := heap_alloc_new w1 (Obj.cells (nodA (A.node key val l r)) 81)
    have H2 := Lib.hid (H1.out.below hal2)
    have HB2 := Lib.hid (trans_of' HB1.out hal2)
    have HX2 := Lib.hid hx2
    have HF1 : Hid (∀ k, Fs k → k < w1.heap.size) := I.dom H1.out.slots
    have HG1 : Hid (g < w1.heap.size) := H1.out.raw.glt
    clear hal2 hx2
    unfold nodA
    go_upto_region 4 with fail
    unfold nodA at HX2 H2 HB2
    generalize w1.alloc _ = w2 at HX2 H2 HB2 ⊢
    obtain ⟨p, hp⟩ : ∃ p, w1.heap.size = p := ⟨_, rfl⟩
    rw [hp] at HX2 HF1 HG1 ⊢
    clear hp
    obtain ⟨c0, c1, c2⟩ := H2.out.cells
    go_wp2_with fail
    refine (I.alloc _ _ _ _ H2.out.slots).mono ?_
    rintro e w3 ⟨Fs', ha3, hfull, htake⟩
    have HX3 := Lib.hid ((ha3.block p (Array.getElem?_eq_some_iff.1 HX2.out).1 (fun hf => by have := HF1.out p hf; omega)).trans HX2.out)
    clear c0 c1 c2
    rcases (show A.σ.free = [] ∨ ∃ i t, A.σ.free = i :: t by cases A.σ.free with | nil => exact .inl rfl | cons i t => exact .inr ⟨i, t, rfl⟩) with hf | ⟨i, t, hf⟩
    · obtain ⟨rfl, h3⟩ := hfull hf
      obtain ⟨h4, ha4⟩ := H2.out.raw.step ha3 h3 rfl
      have H4 := Lib.hid (h4.lie rfl rfl H2.out.off H2.out.fit)
      have HA4 := Lib.hid ((Alters.of_below HB2.out).trans ha4)
      have HF := Lib.hid hf
      clear hfull htake ha3 h3 h4 ha4 hf
      go_wp2_with fail
      go_ret2
      exact ⟨Fs', HA4.out, fun h => absurd HOK.out h, fun _ _ => ⟨rfl, H4.out⟩, fun _ i t h => by rw [HF.out] at h; cases h⟩
    · obtain ⟨rfl, h3⟩ := htake i t hf
      have him := (H2.out.ok.free i).1 (by rw [hf]; simp)
      have hcap := H2.out.ok.cap2
      obtain ⟨j, rfl⟩ : ∃ j, i = j + 1 := ⟨i - 1, by omega⟩
      obtain ⟨h4, ha4⟩ := H2.out.raw.step ha3 h3 rfl
      have H4 := Lib.hid h4
      have HA4 := Lib.hid ((Alters.of_below HB2.out).trans ha4)
      have HF := Lib.hid hf
      have HIM := Lib.hid him
      have hji : (j : Int) < (A.σ.cap : Int) := by omega
      have hj0 : (0 : Int) ≤ (j : Int) := by omega
      have hj4 : (j : Int) + 1 < 4294967296 := by omega
      have hjc : j < A.σ.cap := by omega
      have hce : (A.σ.take (j + 1) t).cap = A.σ.cap := rfl
      obtain ⟨c0, c1, c2⟩ := h4.cells
      rw [hce] at c1
      obtain ⟨x0, x1, x2, x3, x4, x5, x6, x7⟩ := row8v (x := A.node key val l r) HX3.out
      have hn1 : ¬ g = p := by have := HG1.out; omega
      have hn2 : ¬ p = g := by have := HG1.out; omega
      have hcel : ∀ k, k < 9 → ∃ v, w3.cell? ⟨g, j * 9 + k, none⟩ = some v := fun k hk => by
        rw [h4.cels.cellAt (j * 9 + k) (by rw [hce]; omega), List.getElem?_eq_getElem (by rw [cels_len]; omega)]
        exact ⟨_, rfl⟩
      obtain ⟨u0, k0⟩ := hcel 0 (by decide)
      obtain ⟨u1, k1⟩ := hcel 1 (by decide)
      obtain ⟨u2, k2⟩ := hcel 2 (by decide)
      obtain ⟨u3, k3⟩ := hcel 3 (by decide)
      obtain ⟨u4, k4⟩ := hcel 4 (by decide)
      obtain ⟨u5, k5⟩ := hcel 5 (by decide)
      obtain ⟨u6, k6⟩ := hcel 6 (by decide)
      obtain ⟨u7, k7⟩ := hcel 7 (by decide)
      obtain ⟨u8, k8⟩ := hcel 8 (by decide)
      rw [Nat.add_zero] at k0
      have f0 := h4.cels.frozenAt (j * 9)
      have f1 := h4.cels.frozenAt (j * 9 + 1)
      have f2 := h4.cels.frozenAt (j * 9 + 2)
      have f3 := h4.cels.frozenAt (j * 9 + 3)
      have f4 := h4.cels.frozenAt (j * 9 + 4)
      have f5 := h4.cels.frozenAt (j * 9 + 5)
      have f6 := h4.cels.frozenAt (j * 9 + 6)
      have f7 := h4.cels.frozenAt (j * 9 + 7)
      have f8 := h4.cels.frozenAt (j * 9 + 8)
      clear hfull htake ha3 h3 h4 ha4 hf him hcap hcel hce hjc
      go_upto_region 7 with fail
      go_region
      rw [sets9]
      have hne : ∀ y, A.Idx y → y ≠ j + 1 := fun y hy e => by
        rcases hy with hy | hy
        · omega
        · rw [e, HIM.out.2.2] at hy; cases hy
      obtain ⟨h5, ha5⟩ := RawA.sets (ndV (A.node key val l r) ++ [.int .i64 1]) (j * 9) H4.out
      have hcv : celV (A.took (j + 1) t (A.node key val l r)) (j + 1) = ndV (A.node key val l r) ++ [.int .i64 1] := by
        unfold celV Ar.took
        show ndV (if j + 1 = j + 1 then _ else _) ++ [Value.int IntKind.i64 (if j + 1 = j + 1 then _ else _)] = _
        rw [if_pos rfl, if_pos rfl]
      have h6 := h5.lie (A := A.took (j + 1) t (A.node key val l r)) rfl (by
        rw [← hcv]
        exact cels_patch A _ rfl (by have := HIM.out; omega) (fun i hi => if_neg hi) (fun i hi => if_neg hi)) (fun i hi => by
          have hi' : (A.σ.take (j + 1) t).on i = false := hi
          have hne2 : i ≠ j + 1 := fun e => by rw [e, take_same] at hi'; cases hi'
          rw [take_other _ _ hne2] at hi'
          show (if i = j + 1 then (1 : Int) else A.cnt i) = 0 ∧ (if i = j + 1 then _ else A.nd i) = _
          rw [if_neg hne2, if_neg hne2]
          exact H2.out.off i hi') (fun i => by
          show 0 ≤ (if i = j + 1 then (1 : Int) else A.cnt i) ∧ (if i = j + 1 then (1 : Int) else A.cnt i) ≤ 9223372036854775807
          split
          · exact ⟨by decide, by decide⟩
          · exact H2.out.fit i)
      have hbd : Below (w3.setCells g (j * 9) (ndV (A.node key val l r) ++ [.int .i64 1])).heap.size (w3.setCells g (j * 9) (ndV (A.node key val l r) ++ [.int .i64 1])) (w3.setCells g (j * 9) (ndV (A.node key val l r) ++ [.int .i64 1])).drew := (Below.refl _ _).drew
      have H7 := Lib.hid (h6.below hbd)
      have HA7 := Lib.hid (HA4.out.trans (ha5.trans (.of_below hbd)))
      have HNE := Lib.hid hne
      have hid1 : ∀ y, A.Idx y → (A.took (j + 1) t (A.node key val l r)).Idx y := fun y hy => by
        rcases hy with e | e
        · exact .inl e
        · exact .inr (by show (A.σ.take (j + 1) t).on y = true; rw [take_other _ _ (HNE.out y (.inr e))]; exact e)
      have hbn1 : ∀ y, (A.took (j + 1) t (A.node key val l r)).σ.on y = true → 1 ≤ (A.took (j + 1) t (A.node key val l r)).cnt y ∧ (A.took (j + 1) t (A.node key val l r)).cnt y ≤ 1179648 := fun y hy => by
        show 1 ≤ (if y = j + 1 then (1 : Int) else A.cnt y) ∧ (if y = j + 1 then (1 : Int) else A.cnt y) ≤ 1179648
        split
        · exact ⟨Int.le_refl 1, by decide⟩
        · exact HCNT.out y (take_is hy (by assumption))
      have HID1 := Lib.hid hid1
      have HBN1 := Lib.hid hbn1
      rw [show [Value.int .i64 (A.node key val l r).key, .int .i64 (A.node key val l r).val, .int .u32 ((A.node key val l r).left : Int), .int .u32 ((A.node key val l r).right : Int), .int .i64 (A.node key val l r).size, .int .i64 (A.node key val l r).sum, .int .i64 (A.node key val l r).mn, .int .i64 (A.node key val l r).mx, .int .i64 1] = ndV (A.node key val l r) ++ [.int .i64 1] from rfl]
      clear h5 ha5 hcv h6 hbd hne hid1 hbn1 c0 c1 c2 x0 x1 x2 x3 x4 x5 x6 x7 k0 k1 k2 k3 k4 k5 k6 k7 k8 f0 f1 f2 f3 f4 f5 f6 f7 f8
      generalize (w3.setCells g (j * 9) (ndV (A.node key val l r) ++ [.int .i64 1])).drew = w5 at H7 HA7 ⊢
      go_wp2_with fail
      refine (a_addRefI H7.out l (HID1.out l HOK.out.1) (fun h => by have := HBN1.out l h; omega)).mono ?_
      rintro e w6 ⟨⟨v6, rfl⟩, h8, ha8⟩
      have H8 := Lib.hid h8
      have HA8 := Lib.hid (HA7.out.trans ha8)
      clear h8 ha8
      have hbn2 : ∀ y, ((A.took (j + 1) t (A.node key val l r)).ret l).σ.on y = true → 1 ≤ ((A.took (j + 1) t (A.node key val l r)).ret l).cnt y ∧ ((A.took (j + 1) t (A.node key val l r)).ret l).cnt y ≤ 1179649 := fun y hy => by
        rw [ret_σ] at hy
        have := HBN1.out y hy
        rw [ret_cnt]
        split <;> omega
      have HBN2 := Lib.hid hbn2
      clear hbn2
      go_wp2_with fail
      refine (a_addRefI H8.out r (by
        rcases HID1.out r HOK.out.2.1 with e | e
        · exact .inl e
        · exact .inr (by rw [ret_σ]; exact e)) (fun h => by have := HBN2.out r h; omega)).mono ?_
      rintro e w7 ⟨⟨v7, rfl⟩, h9, ha9⟩
      rw [made_took A t key val (HNE.out l HOK.out.1) (HNE.out r HOK.out.2.1) (by omega)] at h9
      have H9 := Lib.hid h9
      have HA9 := Lib.hid (HA8.out.trans ha9)
      clear h9 ha9
      go_wp2_with fail
      go_ret2
      refine ⟨Fs', HA9.out, fun h => absurd HOK.out h, fun _ h => (by rw [HF.out] at h; cases h), fun _ i' t' h => ?_⟩
      rw [HF.out] at h
      simp only [List.cons.injEq] at h
      obtain ⟨rfl, rfl⟩ := h
      exact ⟨rfl, H9.out⟩
  · have HNO := Lib.hid hno
    clear hno
    have hal2 := below_al w1 (Obj.cells (nodA Nd.zero) 81)
    have H2 := Lib.hid (H1.out.below hal2)
    have HB2 := Lib.hid (trans_of' HB1.out hal2)
    clear hal2
    unfold nodA
    go_wp2_with fail
    unfold nodA at H2 HB2
    go_ret2
    exact ⟨Fs, .of_below HB2.out, fun _ => ⟨rfl, H2.out⟩, fun h => absurd h HNO.out, fun h => absurd h HNO.out⟩
end
section
variable {I : Impl} {w w' : World} {ab : Nat} {sp : Addr} {A A' : Ar} {rd : Int} {ca : Option Addr} {cc g : Nat} {Fs Fs' : Nat → Prop}
def ARem (I : Impl) (w : World) (ab : Nat) (sp : Addr) (A : Ar) (rd : Int) (g cc : Nat) (Fs : Nat → Prop) (i : Nat) (e : Ending) (w' : World) : Prop :=
  ∃ Fs', Alters (FootA ab (some ⟨g, 0, none⟩) Fs) (FootA ab (some ⟨g, 0, none⟩) Fs') w w' ∧
    (A.σ.on i = false → e = .returned (.tuple #[.agg (nodA Nd.zero), .bool false]) ∧ LieA I w' ab sp A rd (some ⟨g, 0, none⟩) cc Fs') ∧
    (A.σ.on i = true → A.cnt i ≠ 1 → e = .returned (.tuple #[.agg (nodA Nd.zero), .bool false]) ∧ LieA I w' ab sp (A.dec i) rd (some ⟨g, 0, none⟩) cc Fs') ∧
    (A.σ.on i = true → A.cnt i = 1 → e = .returned (.tuple #[.agg (nodA (A.nd i)), .bool true]) ∧ LieA I w' ab sp (A.drop i) rd (some ⟨g, 0, none⟩) cc Fs')
set_option maxHeartbeats 4000000 in
set_option maxRecDepth 100000 in
theorem a_remove (h : LieA I w ab sp A rd (some ⟨g, 0, none⟩) cc Fs) (i : Nat) (hi : i < 4294967296) (hp1 : A.σ.on i = true → 1 ≤ A.cnt i) :
    Calls Tryz.prog 50 #[.pointer (some ⟨ab, 0, none⟩), .int .u32 (i : Int)] w (ARem I w ab sp A rd g cc Fs i) := by
  have HU : Hid _ := Lib.hid Tryz.underlying81
  have HIN := Lib.hid nodInfo
  have hb1 := below_al w (Obj.cells (nodA Nd.zero) 81)
  have HP := Lib.hid (heap_alloc_new w (Obj.cells (nodA Nd.zero) 81))
  have HB1 := Lib.hid hb1
  have HOK := Lib.hid h.ok
  have HOFF := Lib.hid h.off
  have HFIT := Lib.hid h.fit
  have HDOM : Hid (∀ k, FootA ab (some ⟨g, 0, none⟩) Fs k → k < w.heap.size) := h.dom
  have H2 := Lib.hid (h.below hb1)
  have HPOS := Lib.hid hp1
  clear h hb1 hp1
  go_enter Tryz.func50, Tryz.ntmps50
  go_upto_region 1 with fail
  rw [show #[Value.int .i64 0, .int .i64 0, .int .u32 0, .int .u32 0, .int .i64 0, .int .i64 0, .int .i64 0, .int .i64 0] = nodA Nd.zero from rfl]
  generalize w.alloc (Obj.cells (nodA Nd.zero) 81) = w1 at HP HB1 H2 ⊢
  obtain ⟨p, hp⟩ : ∃ p, w.heap.size = p := ⟨_, rfl⟩
  rw [hp] at HP HDOM ⊢
  have HPP := Lib.hid hp
  clear hp
  by_cases ho : A.σ.on i = true
  · have hle := HOK.out.on i ho
    have hcap := HOK.out.cap2
    have hpos := HPOS.out ho
    obtain ⟨j, rfl⟩ : ∃ j, i = j + 1 := ⟨i - 1, by omega⟩
    have hj : j < A.σ.cap := by omega
    have HO := Lib.hid ho
    have HJ := Lib.hid hj
    have hj4 : (j : Int) + 1 < 4294967296 := by omega
    clear ho hle hj hi hcap
    go_wp2_with fail
    refine (a_cell_on H2.out j HO.out).mono ?_
    rintro e w2 ⟨rfl, q2, rfl⟩
    have hb2 : Below w1.heap.size w1 (w1.drewN q2) := below_drewN (Below.refl _ _) q2
    generalize w1.drewN q2 = w2 at hb2 ⊢
    have HP2 := Lib.hid (keep_blk HP.out hb2)
    have h3 := H2.out.below hb2
    have HBB := Lib.hid (trans_of' HB1.out hb2)
    clear hb2
    obtain ⟨_, _, _, _, _, _, _, _, c8⟩ := h3.nine HJ.out
    have f8 := h3.cels.frozenAt (j * 9 + 8)
    obtain ⟨C, hC⟩ : ∃ C, A.cnt (j + 1) = C := ⟨_, rfl⟩
    have hfit := HFIT.out (j + 1)
    rw [hC] at c8 hpos hfit
    obtain ⟨h4, ha4⟩ := h3.putC HO.out (C - 1) (by omega)
    have hP4 : (w2.setCell ⟨g, j * 9 + 8, none⟩ (.int .i64 (C - 1))).heap[p]? = some (Obj.cells (nodA Nd.zero) 81 (0, 0)) := (heap_setCell_other _ _ _ _ (show p ≠ g by have := HDOM.out g (.inr (.inl ⟨_, rfl, rfl⟩)); omega)).trans HP2.out
    have HC := Lib.hid hC
    have H4 := Lib.hid h4
    have HP4 := Lib.hid hP4
    have HA4 := Lib.hid ((Alters.of_below HBB.out).trans ha4)
    have hfit2 := hfit.2
    clear h3 h4 ha4 hP4 hC hfit
    go_upto_region 5 with fail
    have HPC := Lib.hid hpos
    clear c8 f8 hpos hfit2
    generalize w2.setCell ⟨g, j * 9 + 8, none⟩ (.int .i64 (C - 1)) = w3 at H4 HP4 HA4 ⊢
    obtain ⟨g0, g1, g2, g3, g4, g5, g6, g7, g8⟩ := H4.out.nine HJ.out
    rw [show (A.putC (j + 1) (C - 1)).cnt (j + 1) = C - 1 from if_pos rfl] at g8
    rw [show (A.putC (j + 1) (C - 1)).nd (j + 1) = A.nd (j + 1) from rfl] at g0 g1 g2 g3 g4 g5 g6 g7
    obtain ⟨D, hD⟩ : ∃ D, C - 1 = D := ⟨_, rfl⟩
    rw [hD] at g8 H4
    have HD := Lib.hid hD
    clear hD
    by_cases hc1 : C = 1
    · obtain rfl : D = 0 := by have := HD.out; omega
      have HC1 := Lib.hid hc1
      clear hc1
      have hal4 := below_al w3 (Obj.cells (nodA (A.nd (j + 1))) 81)
      have hx4 := heap_alloc_new w3 (Obj.cells (nodA (A.nd (j + 1))) 81)
      have H5 := Lib.hid (H4.out.below hal4)
      have HP5 := Lib.hid (keep_blk HP4.out hal4)
      have HA5 := Lib.hid (HA4.out.trans (.of_below hal4))
      have HX5 := Lib.hid hx4
      have HPL : Hid (p < w3.heap.size) := (Array.getElem?_eq_some_iff.1 HP4.out).1
      clear hal4 hx4
      go_upto_region 8 with fail
      rw [show #[Value.int .i64 (A.nd (j + 1)).key, .int .i64 (A.nd (j + 1)).val, .int .u32 ((A.nd (j + 1)).left : Int), .int .u32 ((A.nd (j + 1)).right : Int), .int .i64 (A.nd (j + 1)).size, .int .i64 (A.nd (j + 1)).sum, .int .i64 (A.nd (j + 1)).mn, .int .i64 (A.nd (j + 1)).mx] = nodA (A.nd (j + 1)) from rfl]
      clear g0 g1 g2 g3 g4 g5 g6 g7 g8
      generalize w3.alloc (Obj.cells (nodA (A.nd (j + 1))) 81) = w4 at H5 HP5 HA5 HX5 ⊢
      obtain ⟨p7, hp7⟩ : ∃ p7, w3.heap.size = p7 := ⟨_, rfl⟩
      rw [hp7] at HX5 HPL ⊢
      clear hp7
      obtain ⟨g0, g1, g2, g3, g4, g5, g6, g7, g8⟩ := H5.out.nine HJ.out
      have f0 := H5.out.cels.frozenAt (j * 9)
      have f1 := H5.out.cels.frozenAt (j * 9 + 1)
      have f2 := H5.out.cels.frozenAt (j * 9 + 2)
      have f3 := H5.out.cels.frozenAt (j * 9 + 3)
      have f4 := H5.out.cels.frozenAt (j * 9 + 4)
      have f5 := H5.out.cels.frozenAt (j * 9 + 5)
      have f6 := H5.out.cels.frozenAt (j * 9 + 6)
      have f7 := H5.out.cels.frozenAt (j * 9 + 7)
      have f8 := H5.out.cels.frozenAt (j * 9 + 8)
      obtain ⟨h6, ha6⟩ := RawA.sets [.int .i64 0, .int .i64 0, .int .u32 0, .int .u32 0, .int .i64 0, .int .i64 0, .int .i64 0, .int .i64 0, .int .i64 0] (j * 9) H5.out.raw
      have hcv : celV (A.drop (j + 1)) (j + 1) = [.int .i64 0, .int .i64 0, .int .u32 0, .int .u32 0, .int .i64 0, .int .i64 0, .int .i64 0, .int .i64 0, .int .i64 0] := by
        unfold celV Ar.drop
        show ndV (if j + 1 = j + 1 then _ else _) ++ [Value.int IntKind.i64 (if j + 1 = j + 1 then _ else _)] = _
        rw [if_pos rfl, if_pos rfl]
        rfl
      rw [← hcv, cels_patch (A.putC (j + 1) 0) (A.drop (j + 1)) rfl HJ.out (fun i hi => if_neg hi) (fun i hi => by show (if i = j + 1 then (0 : Int) else A.cnt i) = (if i = j + 1 then (0 : Int) else A.cnt i); rfl), hcv] at h6
      have hP6 := (ha6.block p (Array.getElem?_eq_some_iff.1 HP5.out).1 (fun hf => by have := HDOM.out p hf; omega)).trans HP5.out
      have hX6 := (ha6.block p7 (Array.getElem?_eq_some_iff.1 HX5.out).1 (fun hf => by have := HDOM.out p7 hf; have := HPL.out; omega)).trans HX5.out
      have H6 := Lib.hid h6
      have HA6 := Lib.hid (HA5.out.trans ha6)
      have HP6 := Lib.hid hP6
      have HX6 := Lib.hid hX6
      clear h6 ha6 hcv hP6 hX6
      go_upto_region 9 with fail
      rw [sets9]
      clear g0 g1 g2 g3 g4 g5 g6 g7 g8 f0 f1 f2 f3 f4 f5 f6 f7 f8
      generalize w4.setCells g (j * 9) _ = w5 at H6 HA6 HP6 HX6 ⊢
      obtain ⟨c0, c1, c2⟩ := H6.out.cells
      go_wp2_with fail
      refine (I.release _ _ _ (j + 1) _ H6.out.slots (by omega)).mono ?_
      rintro e w6 ⟨Fs', ha7, _, h7⟩
      obtain ⟨rfl, h8⟩ := h7 HO.out
      obtain ⟨h9, ha9⟩ := H6.out.step ha7 h8 rfl
      have hFp : ∀ k, Fs k → k < p := fun k hk => HDOM.out k (.inr (.inr hk))
      have hP7 := (ha7.block p (Array.getElem?_eq_some_iff.1 HP6.out).1 (fun hf => by have := hFp p hf; omega)).trans HP6.out
      have hX7 := (ha7.block p7 (Array.getElem?_eq_some_iff.1 HX6.out).1 (fun hf => by have := hFp p7 hf; have := HPL.out; omega)).trans HX6.out
      have HNF : Hid (¬ Fs' p) := fun hf => by
        rcases ha7.foot p hf with h1 | h1
        · have := hFp p h1; omega
        · have := (Array.getElem?_eq_some_iff.1 HP6.out).1; omega
      have h10 := h9.lie (A := A.drop (j + 1)) rfl rfl (fun i hi => by
        have hi' : (A.σ.put (j + 1)).on i = false := hi
        show (if i = j + 1 then (0 : Int) else A.cnt i) = 0 ∧ (if i = j + 1 then Nd.zero else A.nd i) = Nd.zero
        by_cases e : i = j + 1
        · rw [if_pos e, if_pos e]; exact ⟨rfl, rfl⟩
        · rw [if_neg e, if_neg e]
          rw [put_other _ e] at hi'
          exact HOFF.out i hi') (fun i => by
        show 0 ≤ (if i = j + 1 then (0 : Int) else A.cnt i) ∧ (if i = j + 1 then (0 : Int) else A.cnt i) ≤ 9223372036854775807
        split
        · exact ⟨by decide, by decide⟩
        · exact HFIT.out i)
      have H10 := Lib.hid h10
      have HA10 := Lib.hid (HA6.out.trans ha9)
      have HP7 := Lib.hid hP7
      have HX7 := Lib.hid hX7
      clear c0 c1 c2 ha7 h7 h8 h9 ha9 hFp hP7 hX7 h10
      obtain ⟨z0, z1, z2, z3, z4, z5, z6, z7⟩ := row8v HX7.out
      go_wp2_with (refine wpList_store_row rfl 81 (.tmp 4) (.tmp 40) rfl p (nodA (A.nd (j + 1))) rfl rfl 81 _ HP7.out HIN.out rfl (nod_ones _) ?_)
      refine bodyPost_ret (results_row_tmp rfl _ _ p 81 (nodA (A.nd (j + 1))) (0, 0) _ rfl (setRow_heap _ _ _ _ _ _ HP7.out) HU.out rfl HIN.out) rfl ?_
      have hpp := HPP.out
      refine ⟨Fs', alt_row HA10.out (by omega), fun h => (by rw [HO.out] at h; cases h), fun _ h => absurd (HC.out.trans HC1.out) h, fun _ _ => ⟨rfl, ?_⟩⟩
      refine H10.out.keep fun k hk => setRow_other _ _ _ _ fun e => ?_
      subst e
      rcases hk with hk | hk | hk
      · have := HDOM.out k (.inl hk); omega
      · have := HDOM.out k (.inr (.inl hk)); omega
      · exact HNF.out hk
    · have hgt : (0 : Int) < D := by have := HD.out; have := HPC.out; omega
      have HC1 := Lib.hid hc1
      clear hc1
      go_wp2_with (refine wpList_store_row rfl 81 (.tmp 4) (.tmp 26) rfl p (nodA Nd.zero) rfl rfl 81 _ HP4.out HIN.out rfl (nod_ones _) ?_)
      refine bodyPost_ret (results_row_tmp rfl _ _ p 81 (nodA Nd.zero) (0, 0) _ rfl (setRow_heap _ _ _ _ _ _ HP4.out) HU.out rfl HIN.out) rfl ?_
      have hpp := HPP.out
      refine ⟨Fs, alt_row HA4.out (by omega), fun h => (by rw [HO.out] at h; cases h), fun _ _ => ⟨rfl, ?_⟩, fun _ h => absurd (HC.out.symm.trans h) HC1.out⟩
      have e : A.dec (j + 1) = A.putC (j + 1) D := by unfold Ar.dec Ar.putC; rw [HC.out, HD.out]
      rw [e]
      exact H4.out.keep fun k hk => setRow_other _ _ _ _ (by have := HDOM.out k hk; omega)
  · have ho' : A.σ.on i = false := by simpa using ho
    have HO := Lib.hid ho'
    clear ho ho'
    go_wp2_with fail
    refine (a_cell_off H2.out i hi HO.out).mono ?_
    rintro e w2 ⟨rfl, q2, rfl⟩
    have hb2 : Below w1.heap.size w1 (w1.drewN q2) := below_drewN (Below.refl _ _) q2
    generalize w1.drewN q2 = w2 at hb2 ⊢
    have HP2 := Lib.hid (keep_blk HP.out hb2)
    have H3 := Lib.hid (H2.out.below hb2)
    have HBB := Lib.hid (trans_of' HB1.out hb2)
    clear hb2
    go_wp2_with (refine wpList_store_row rfl 81 (.tmp 4) (.tmp 13) rfl p (nodA Nd.zero) rfl rfl 81 _ HP2.out HIN.out rfl (nod_ones _) ?_)
    refine bodyPost_ret (results_row_tmp rfl _ _ p 81 (nodA Nd.zero) (0, 0) _ rfl (setRow_heap _ _ _ _ _ _ HP2.out) HU.out rfl HIN.out) rfl ?_
    have hpp := HPP.out
    exact ⟨Fs, alt_row (Alters.of_below HBB.out) (by omega), fun _ => ⟨rfl, H3.out.keep fun k hk => setRow_other _ _ _ _ (by have := HDOM.out k hk; omega)⟩, fun h => (by rw [HO.out] at h; cases h), fun h => (by rw [HO.out] at h; cases h)⟩
end
/-- a slot's description -/
structure Sl where
  on : Bool
  cnt : Int
  gen : Int
  nd : Nd
/-- child t (0 or 1) of a slot -/
def kd (s : Sl) (t : Nat) : Nat := if t = 0 then s.nd.left else s.nd.right
/-- the references to x from the first t children of a slot, if it is allocated -/
def ph (t : Nat) (s : Sl) (x : Nat) : Nat := if s.on = true then ((List.range t).map fun u => hit (kd s u) x).sum else 0
/-- the references to x from the first k slots -/
def eg (S : Nat → Sl) (k : Nat) (x : Nat) : Nat := ((List.range k).map fun m => ph 2 (S m) x).sum
theorem two_cells {w : World} {k : Nat} {x y : Value} {t : TypeId} (h : w.heap[k]? = some (.cells #[x, y] t (0, 0))) : w.cell? ⟨k, 0, none⟩ = some x ∧ w.cell? ⟨k, 1, none⟩ = some y := by
  refine ⟨?_, ?_⟩ <;> (rw [cell_of_row _ _ _ _ _ _ h]; rfl)
end Go.Proofs.YtfihklpofmcfgaaGreat
namespace Go.Proofs.YtfihklpofmcfgaaGreat
/-- x is an allocated slot -/
def Al (S : Nat → Sl) (n x : Nat) : Prop := 1 ≤ x ∧ x ≤ n ∧ (S (x - 1)).on = true
instance (S : Nat → Sl) (n x : Nat) : Decidable (Al S n x) := by unfold Al; exact inferInstance
open Go.RowKit
theorem uInfo : (Tryz.prog.info? 26).map (fun i => (i.zero, i.size, i.bytes)) = some (some (.int .u32 0), 1, 4) := by kernel_rfl
theorem u32s_app (l m : List Nat) : u32s (l ++ m) = u32s l ++ u32s m := by simp [u32s]
theorem u32s_last (l : List Nat) (x : Nat) : (u32s (l ++ [x]))[l.length]? = some (.int .u32 (x : Int)) := by simp [u32s]
theorem row_cut {w : World} {B n m c : Nat} {e : TypeId} {g : Nat} {xs : List Value} (h : w.ownsRow B e 1 (.slice (some ⟨g, 0, none⟩) n c) n xs) (hm : m ≤ n) : w.ownsRow B e 1 (.slice (some ⟨g, 0, none⟩) m c) m (xs.take m) := by
  have hl := h.1
  rcases h.2 with ⟨hv, _⟩ | ⟨g2, cap, cur, hv, hB, hc, hn, hcm, hs, ht⟩
  · simp at hv
  · simp only [Value.slice.injEq, Option.some.injEq, Addr.mk.injEq] at hv
    obtain ⟨⟨rfl, _⟩, _, rfl⟩ := hv
    refine ⟨by simp; omega, .inr ⟨g, c, cur, rfl, hB, hc, by omega, hcm, hs, ?_⟩⟩
    rw [← ht, List.take_take]
    congr 1
    omega
theorem row_caps {w : World} {B n c s : Nat} {e : TypeId} {a : Option Addr} {xs : List Value} (h : w.ownsRow B e s (.slice a n c) n xs) : n ≤ c ∧ c ≤ maxLen := by
  rcases h.2 with ⟨hv, hn⟩ | ⟨g2, cap, cur, hv, hB, hc, hn, hcm, hs, ht⟩
  · simp only [Value.slice.injEq] at hv
    omega
  · simp only [Value.slice.injEq] at hv
    omega
theorem cell_new2 (w : World) (x y : Value) (t : TypeId) : ∀ j u, [x, y][j]? = some u → (w.alloc (.cells #[x, y] t)).cell? ((⟨w.heap.size, 0, none⟩ : Addr).add j) = some u := by
  intro j u hu
  match j, hu with
  | 0, hu => simp at hu; subst hu; simp [Addr.add]
  | 1, hu => simp at hu; subst hu; simp [Addr.add]
theorem one_cell2 (k : IntKind) (x y : Int) : ∀ u ∈ [Value.int k x, Value.int k y], u.oneCell' = true := by
  intro u hu; simp at hu; rcases hu with rfl | rfl <;> rfl
theorem run_pop0 (f : Nat) (A : Ar) (t : List Nat) : Ar.run (f + 1) A (0 :: t) = Ar.run f A t := by
  conv => lhs; unfold Ar.run
  rw [if_pos rfl]
theorem run_popDec (f : Nat) (A : Ar) {i : Nat} (t : List Nat) (h0 : i ≠ 0) (hc : A.cnt i ≠ 1) : Ar.run (f + 1) A (i :: t) = Ar.run f (A.dec i) t := by
  conv => lhs; unfold Ar.run
  rw [if_neg h0, if_neg hc]
theorem run_popDrop (f : Nat) (A : Ar) {i : Nat} (t : List Nat) (h0 : i ≠ 0) (hc : A.cnt i = 1) : Ar.run (f + 1) A (i :: t) = ((Ar.run f (A.drop i) ((A.nd i).left :: (A.nd i).right :: t)).1, (Ar.run f (A.drop i) ((A.nd i).left :: (A.nd i).right :: t)).2 + 1) := by
  conv => lhs; unfold Ar.run
  rw [if_neg h0, if_pos hc]
theorem run_nil (f : Nat) (A : Ar) : Ar.run f A [] = (A, 0) := by cases f <;> rfl
/-- the cascade at hand in memory: A' is the arena, s the stack, n slots have become free -/
structure RelR (I : Impl) (w : World) (ab : Nat) (sp : Addr) (A : Ar) (rd : Int) (g cc : Nat) (Fs : Nat → Prop) (held : Nat → Nat) (i k : Nat) (n : Nat) (x : Value) (A' : Ar) (s : List Nat) (Fs' : Nat → Prop) (wr : World) : Prop where
  val : ∃ a c, x = .slice a s.length c
  work : wr.ownsRow w.heap.size 26 1 x s.length (u32s s.reverse)
  lie : LieA I wr ab sp A' rd (some ⟨g, 0, none⟩) cc Fs'
  alt : Alters (FootA ab (some ⟨g, 0, none⟩) Fs) (FootA ab (some ⟨g, 0, none⟩) Fs') w wr
  sep : ∀ b, x.ownBlock = some b → ¬ FootA ab (some ⟨g, 0, none⟩) Fs' b
  inv : A'.Inv s held
  run : (Ar.run k A' s).1 = A.gone i ∧ (Ar.run k A' s).2 + n = A.freed i
  fuel : 3 * (A'.σ.cap - A'.σ.free.length) + s.length ≤ k
  big : k ≤ 200000
  few : n + (A'.σ.cap - A'.σ.free.length) ≤ 65536
section
variable {I : Impl} {w w' wr : World} {ab : Nat} {sp : Addr} {A A' : Ar} {rd : Int} {cc g : Nat} {Fs Fs' Fs2 : Nat → Prop} {held : Nat → Nat} {i k n : Nat} {x v : Value} {s t : List Nat}
/-- what lies in memory behind the pop and the removal -/
structure MidR (I : Impl) (w : World) (ab : Nat) (sp : Addr) (rd : Int) (g cc : Nat) (Fs : Nat → Prop) (x : Value) (A' : Ar) (t : List Nat) (Fs' : Nat → Prop) (wr : World) : Prop where
  work : wr.ownsRow w.heap.size 26 1 x t.length (u32s t.reverse)
  lie : LieA I wr ab sp A' rd (some ⟨g, 0, none⟩) cc Fs'
  alt : Alters (FootA ab (some ⟨g, 0, none⟩) Fs) (FootA ab (some ⟨g, 0, none⟩) Fs') w wr
  sep : ∀ b, x.ownBlock = some b → ¬ FootA ab (some ⟨g, 0, none⟩) Fs' b
theorem MidR.below (h : MidR I w ab sp rd g cc Fs x A' t Fs' wr) (hb : Below wr.heap.size wr w') : MidR I w ab sp rd g cc Fs x A' t Fs' w' :=
  ⟨row_below h.work hb, h.lie.below hb, h.alt.trans (.of_below hb), h.sep⟩
theorem RelR.mid {y : Nat} {a : Addr} {c : Nat} {B : Ar} (h : RelR I w ab sp A rd g cc Fs held i k n (.slice (some a) (t.length + 1) c) A' (y :: t) Fs' wr) (ha : Alters (FootA ab (some ⟨g, 0, none⟩) Fs') (FootA ab (some ⟨g, 0, none⟩) Fs2) wr w') (hl : LieA I w' ab sp B rd (some ⟨g, 0, none⟩) cc Fs2) :
    MidR I w ab sp rd g cc Fs (.slice (some a) t.length c) B t Fs2 w' := by
  have hw := h.work
  rw [List.length_cons] at hw
  obtain ⟨g2, hg2⟩ := row_head hw (by omega)
  rw [hg2] at hw ⊢
  have h1 := row_cut hw (m := t.length) (by omega)
  have e : (u32s (y :: t).reverse).take t.length = u32s t.reverse := by
    rw [List.reverse_cons, u32s_app]
    exact List.take_left' (by simp [u32s])
  rw [e] at h1
  have hs : ∀ b, (Value.slice (some (⟨g2, 0, none⟩ : Addr)) t.length c).ownBlock = some b → ¬ FootA ab (some ⟨g, 0, none⟩) Fs' b := fun b hb => h.sep b (by rw [hg2]; exact hb)
  have h2 := ha.apart (G := fun b => (Value.slice (some (⟨g2, 0, none⟩ : Addr)) t.length c).ownBlock = some b) fun b hb => ⟨(row_lt h1 b hb).2, hs b hb⟩
  exact ⟨ha.row h1 hs, hl, h.alt.trans ha, fun b hb => (h2 b hb).2⟩
/-- the children are pushed -/
theorem MidR.push {l r : Nat} (h : MidR I w ab sp rd g cc Fs x A' t Fs' wr) (hg : wr.grownBy w' x.ownBlock) (hr : w'.ownsRow w.heap.size 26 1 v (t.length + 2) (u32s t.reverse ++ [.int .u32 (r : Int), .int .u32 (l : Int)]))
    (hv : v.ownBlock = x.ownBlock ∨ v.ownBlock = some wr.heap.size) : MidR I w ab sp rd g cc Fs v A' (l :: r :: t) Fs' w' := by
  refine ⟨?_, h.lie.keep fun b hb => hg.block b (h.lie.dom b hb) fun e => h.sep b e.symm hb, ⟨hg.os.trans h.alt.os, hg.tape.trans h.alt.tape, hg.output.trans h.alt.output, Nat.le_trans h.alt.size hg.size, fun b hb hF => (hg.block b (Nat.lt_of_lt_of_le hb h.alt.size) fun e => ?_).trans (h.alt.block b hb hF), h.alt.foot⟩, fun b hb hF => ?_⟩
  · rw [show (l :: r :: t).reverse = t.reverse ++ [r, l] by simp, u32s_app]
    exact hr
  · have := row_from h.work b e.symm; omega
  · rcases hv with e | e
    · exact h.sep b (e ▸ hb) hF
    · rw [e] at hb; simp at hb; have := h.lie.dom b hF; omega
set_option maxHeartbeats 1000000 in
set_option maxRecDepth 100000 in
theorem a_release_bad (h : LieA I w ab sp A rd (some ⟨g, 0, none⟩) cc Fs) (i : Nat) (hi : i < 4294967296) (hb : ¬ A.Idx i) :
    Calls Tryz.prog 14 #[.pointer (some ⟨ab, 0, none⟩), .int .u32 (i : Int)] w (Calm w (.tuple #[.int .i64 0, .int .i64 3])) := by
  have hx : (decide (i = 0) || A.σ.on i) = false := by
    unfold Ar.Idx at hb
    have h1 : ¬ i = 0 := fun e => hb (.inl e)
    have h2 : ¬ A.σ.on i = true := fun e => hb (.inr e)
    simp [h1, h2]
  have HI := Lib.hid (a_isIndex h i hi)
  have HX := Lib.hid hx
  clear h hb hx
  go_enter Tryz.func14, Tryz.ntmps14
  go_wp2_with fail
  refine HI.out.mono ?_
  rintro e w2 ⟨rfl, q, rfl⟩
  rw [HX.out]
  clear HI HX
  go_wp2_with fail
  go_ret2
  exact ⟨rfl, below_drewN (Below.refl _ _) _⟩
def ARel (I : Impl) (w : World) (ab : Nat) (sp : Addr) (A : Ar) (rd : Int) (g cc : Nat) (Fs : Nat → Prop) (i : Nat) (e : Ending) (w' : World) : Prop :=
  ∃ Fs', Alters (FootA ab (some ⟨g, 0, none⟩) Fs) (FootA ab (some ⟨g, 0, none⟩) Fs') w w' ∧ e = .returned (.tuple #[.int .i64 (A.freed i : Int), .int .i64 0]) ∧ LieA I w' ab sp (A.gone i) rd (some ⟨g, 0, none⟩) cc Fs'
theorem u32InfoA : (Tryz.prog.info? 26).map (fun i => (i.zero, i.size, i.bytes)) = some (some (.int .u32 0), 1, 4) := by kernel_rfl
set_option maxHeartbeats 4000000 in
set_option maxRecDepth 100000 in
theorem a_release (h : LieA I w ab sp A rd (some ⟨g, 0, none⟩) cc Fs) (i : Nat) (hi : i < 4294967296) (hb : A.Idx i) (hinv : A.Inv [i] held) :
    Calls Tryz.prog 14 #[.pointer (some ⟨ab, 0, none⟩), .int .u32 (i : Int)] w (ARel I w ab sp A rd g cc Fs i) := by
  obtain ⟨i1, ji, jz0, jz1, jz2⟩ := info_parts u32InfoA
  have hx : (decide (i = 0) || A.σ.on i) = true := by
    rcases hb with e | e
    · simp [e]
    · simp [e]
  have HI := Lib.hid (a_isIndex h i hi)
  have HX := Lib.hid hx
  have HH := Lib.hid h
  have HINV := Lib.hid hinv
  clear h hx hb hinv
  go_enter Tryz.func14, Tryz.ntmps14
  go_wp2_with fail
  refine HI.out.mono ?_
  rintro e w1 ⟨rfl, q, rfl⟩
  rw [HX.out]
  have hb1 : Below w.heap.size w (w.drewN q) := below_drewN (Below.refl _ _) q
  generalize w.drewN q = w1 at hb1 ⊢
  have h1 := HH.out.below hb1
  have hal := below_al w1 (Obj.cells #[Value.int .u32 (i : Int)] 26)
  have hrow := World.ownsRow_lit (base := w.heap.size) (e := 26) (size := 1) w1 #[Value.int .u32 (i : Int)] 1 hb1.size (by decide) rfl
  have hlen := HINV.out.ok.len
  have hcap := HINV.out.ok.cap2
  have HM : Hid (RelR I w ab sp A rd g cc Fs held i A.fuel 0 (.slice (some ⟨w1.heap.size, 0, none⟩) 1 1) A [i] Fs (w1.alloc (Obj.cells #[Value.int .u32 (i : Int)] 26))) := by
    refine ⟨⟨_, _, rfl⟩, hrow, h1.below hal, .of_below (trans_of' hb1 hal), fun b hb hF => ?_, HINV.out, ⟨rfl, rfl⟩, ?_, ?_, by omega⟩
    · simp [Value.ownBlock] at hb
      have := h1.dom b hF
      omega
    · unfold Ar.fuel; simp; omega
    · unfold Ar.fuel; omega
  clear h1 hal hrow hlen hcap hb1 HI HX
  go_wp2_with fail
  go_loopg [6, 7] A.fuel (fun gk fr x wr => ∃ n A' s Fs', fr = .int .i64 ((n : Nat) : Int) ∧ RelR I w ab sp A rd g cc Fs held i gk n x A' s Fs' wr)
  case atStart => exact ⟨0, _, _, _, rfl, HM.out⟩
  case round =>
    clear HM
    obtain ⟨n, A', s, Fs', rfl, hM⟩ := hrel
    obtain ⟨xa, xc, rfl⟩ := hM.val
    have hnb := hM.few
    rcases (show s = [] ∨ ∃ y t, s = y :: t by cases s with | nil => exact .inl rfl | cons y t => exact .inr ⟨y, t, rfl⟩) with rfl | ⟨y, t, rfl⟩
    · have HMM := Lib.hid hM
      clear hM hnb
      rw [show ([] : List Nat).length = 0 from rfl]
      go_wp2_with fail
      go_ret2
      have hr := HMM.out.run
      rw [run_nil] at hr
      refine ⟨Fs', HMM.out.alt, by rw [← hr.2]; simp, ?_⟩
      rw [← hr.1]
      exact HMM.out.lie
    · obtain ⟨T, hT⟩ : ∃ T, t.length = T := ⟨_, rfl⟩
      have hw := hM.work
      rw [List.length_cons, hT] at hw hM
      obtain ⟨g2, rfl⟩ := row_head hw (by omega)
      have hcap2 := row_caps hw
      have hcy := hw.cellAt T (by omega)
      have hey : (u32s (y :: t).reverse)[T]? = some (.int .u32 (y : Int)) := by rw [List.reverse_cons, ← hT, ← List.length_reverse]; exact u32s_last _ _
      rw [hey] at hcy
      have hfu := hM.fuel
      have hbig := hM.big
      rw [List.length_cons, hT] at hfu
      obtain ⟨gk, rfl⟩ : ∃ k, gk = k + 1 := ⟨gk - 1, by omega⟩
      have hTi : (T : Int) + 1 ≤ 200000 := by omega
      have hTi0 : (0 : Int) ≤ (T : Int) := by omega
      have hxc : (T : Int) + 1 ≤ (xc : Int) := by omega
      have hxc2 : (xc : Int) ≤ 9223372036854775807 := by have := hcap2.2; unfold maxLen at this; omega
      have hni : (n : Int) ≤ 65536 := by omega
      have hni0 : (0 : Int) ≤ (n : Int) := by omega
      have hyi : y = 0 ∨ A'.σ.on y = true := hM.inv.stack y (by simp)
      have hy4 : y < 4294967296 := by
        rcases hyi with h | h
        · omega
        · have := hM.lie.ok.on y h; have := hM.lie.ok.cap2; omega
      have HREM := Lib.hid (a_remove hM.lie y hy4 (fun h => hM.inv.pos y h))
      have HMM := Lib.hid hM
      have HT := Lib.hid hT
      have HYI := Lib.hid hyi
      have HFU := Lib.hid hfu
      have HNB := Lib.hid hnb
      rw [List.length_cons, hT]
      clear hM hw hcap2 hey hfu hbig hT hyi hnb hy4
      go_wp2_with fail
      refine HREM.out.mono ?_
      rintro e w4 ⟨Fs2, ha4, hoff, hdec, hdrop⟩
      clear hcy HREM
      have hrl := HMM.out
      rw [← HT.out] at hrl
      by_cases h0 : y = 0
      · subst h0
        have ho0 : A'.σ.on 0 = false := by
          cases hq : A'.σ.on 0 with
          | false => rfl
          | true => have := HMM.out.lie.ok.on 0 hq; omega
        obtain ⟨rfl, hl4⟩ := hoff ho0
        have hmid := hrl.mid ha4 hl4
        rw [HT.out] at hmid
        have HMID := Lib.hid (hmid.below (below_al w4 (Obj.cells (nodA Nd.zero) 81)))
        clear hoff hdec hdrop hrl ha4 hl4 hmid ho0
        unfold nodA
        go_wp2_with fail
        unfold nodA at HMID
        go_roundg gk
        case measure => omega
        case rel =>
          have hr := HMM.out.run
          rw [run_pop0] at hr
          have hm := HMID.out
          rw [← HT.out] at hm ⊢
          exact ⟨n, A', t, Fs2, rfl, ⟨_, _, rfl⟩, hm.work, hm.lie, hm.alt, hm.sep, HMM.out.inv.pop0, hr, by have := HFU.out; have := HT.out; omega, by have := HMM.out.big; omega, HMM.out.few⟩
      · have hon : A'.σ.on y = true := by
          rcases HYI.out with h | h
          · exact absurd h h0
          · exact h
        by_cases hc1 : A'.cnt y = 1
        · obtain ⟨rfl, hl4⟩ := hdrop hon hc1
          have hmid := hrl.mid ha4 hl4
          rw [HT.out] at hmid
          have hal5 := below_al w4 (Obj.cells (nodA (A'.nd y)) 81)
          have HMID := Lib.hid (hmid.below hal5)
          have HX5 := Lib.hid (heap_alloc_new w4 (Obj.cells (nodA (A'.nd y)) 81))
          have HON := Lib.hid hon
          have HC1 := Lib.hid hc1
          have HY0 := Lib.hid h0
          clear hoff hdec hdrop hrl ha4 hl4 hmid hal5 hon hc1 h0
          unfold nodA
          go_upto_region 10 with fail
          rw [show #[Value.int .i64 (A'.nd y).key, .int .i64 (A'.nd y).val, .int .u32 ((A'.nd y).left : Int), .int .u32 ((A'.nd y).right : Int), .int .i64 (A'.nd y).size, .int .i64 (A'.nd y).sum, .int .i64 (A'.nd y).mn, .int .i64 (A'.nd y).mx] = nodA (A'.nd y) from rfl]
          generalize w4.alloc (Obj.cells (nodA (A'.nd y)) 81) = w5 at HMID HX5 ⊢
          generalize w4.heap.size = p5 at HX5 ⊢
          obtain ⟨_, _, z2, z3, _⟩ := row8v HX5.out
          have hal6 := below_al w5 (Obj.cells #[Value.int .u32 ((A'.nd y).right : Int), .int .u32 ((A'.nd y).left : Int)] 26)
          have hm6 := HMID.out.below hal6
          have hwk := hm6.work
          rw [HT.out] at hwk
          have hsz6 := hm6.alt.size
          have HM6 := Lib.hid hm6
          clear hal6 hm6
          go_wp2_with (at_builtin; refine wpList_append_own_at _ rfl (.tmp 40) (.tmp 45) 31 rfl w.heap.size 26 i1 (.int .u32 0) 1 4 Tryz.underlying31 ji jz0 jz1 jz2 rfl (by decide) _ T (u32s t.reverse) rfl hwk ⟨w5.heap.size, 0, none⟩ 2 2 [.int .u32 ((A'.nd y).right : Int), .int .u32 ((A'.nd y).left : Int)] rfl rfl (cell_new2 _ _ _ _) (one_cell2 _ _ _) (by unfold maxLen; omega) (by omega) hsz6 ?_; intro v9 w9 ho9 hg9 _ hv9)
          rw [← HT.out] at ho9
          go_roundg gk
          case measure => omega
          case rel =>
            have hm := HM6.out.push hg9 ho9 hv9
            have hr := HMM.out.run
            rw [run_popDrop gk A' t HY0.out HC1.out] at hr
            obtain ⟨va, vc, hvv⟩ := row_val ho9
            have hlt : A'.σ.free.length + 1 ≤ A'.σ.cap := by
              have h2 := (St.put_ok HMM.out.lie.ok HON.out).len
              simp [St.put] at h2
              exact h2
            have hfl : (A'.drop y).σ.free.length = A'.σ.free.length + 1 := by simp [Ar.drop, St.put]
            have hcp : (A'.drop y).σ.cap = A'.σ.cap := rfl
            refine ⟨n + 1, A'.drop y, (A'.nd y).left :: (A'.nd y).right :: t, Fs2, by go_num, ⟨va, vc, hvv⟩, hm.work, hm.lie, hm.alt, hm.sep, HMM.out.inv.popDrop HON.out HC1.out, ⟨hr.1, by have := hr.2; simp only at this; omega⟩, ?_, by have := HMM.out.big; omega, ?_⟩
            · rw [hfl, hcp]
              have := HFU.out
              have := HT.out
              simp only [List.length_cons]
              omega
            · rw [hfl, hcp]
              have := HNB.out
              omega
        · obtain ⟨rfl, hl4⟩ := hdec hon hc1
          have hmid := hrl.mid ha4 hl4
          rw [HT.out] at hmid
          have HMID := Lib.hid (hmid.below (below_al w4 (Obj.cells (nodA Nd.zero) 81)))
          have HON := Lib.hid hon
          have HC1 := Lib.hid hc1
          have HY0 := Lib.hid h0
          clear hoff hdec hdrop hrl ha4 hl4 hmid hon hc1 h0
          unfold nodA
          go_wp2_with fail
          unfold nodA at HMID
          go_roundg gk
          case measure => omega
          case rel =>
            have hr := HMM.out.run
            rw [run_popDec gk A' t HY0.out HC1.out] at hr
            have hm := HMID.out
            rw [← HT.out] at hm ⊢
            have hpos := HMM.out.inv.pos y HON.out
            have h1 := HC1.out
            exact ⟨n, A'.dec y, t, Fs2, rfl, ⟨_, _, rfl⟩, hm.work, hm.lie, hm.alt, hm.sep, HMM.out.inv.popDec HON.out (by omega), hr, by have := HFU.out; have := HT.out; show 3 * (A'.σ.cap - A'.σ.free.length) + _ ≤ _; omega, by have := HMM.out.big; omega, HMM.out.few⟩
end
def celZ : Value := .agg #[.int .i64 0, .int .i64 0, .int .u32 0, .int .u32 0, .int .i64 0, .int .i64 0, .int .i64 0, .int .i64 0, .int .i64 0]
theorem celInfo : (Tryz.prog.info? 83).map (fun i => (i.zero, i.size, i.bytes)) = some (some celZ, 9, 64) := by kernel_rfl
theorem cels_zero (n : Nat) : (madeCells celZ.cells (n * 9)).toList = celsV (Ar.init n) := by
  refine cels_ext (by rw [Array.length_toList, size_madeCells]; rfl) fun i j hi hj => ?_
  have hi' : i < n := hi
  unfold madeCells
  simp only [Array.toList_map, Array.toList_range, List.getElem?_map, List.getElem?_range (show i * 9 + j < n * 9 by omega), Option.map_some]
  have e : (i * 9 + j) % celZ.cells.size = j := by
    show (i * 9 + j) % 9 = j
    omega
  rcases (show j = 0 ∨ j = 1 ∨ j = 2 ∨ j = 3 ∨ j = 4 ∨ j = 5 ∨ j = 6 ∨ j = 7 ∨ j = 8 by omega) with h | h | h | h | h | h | h | h | h <;> (subst h; rw [e]; rfl)
section
variable {I : Impl} {w w' wr : World} {ab : Nat} {sp : Addr} {A A' : Ar} {rd : Int} {cc g : Nat} {Fs Fs' : Nat → Prop}
set_option maxHeartbeats 1000000 in
set_option maxRecDepth 100000 in
theorem a_new_bad (I : Impl) (n : Int) (w : World) (h1 : -9223372036854775808 ≤ n) (h2 : n ≤ 9223372036854775807) (h : n < 1 ∨ 65536 < n) :
    Calls Tryz.prog 30 #[.int .i64 n] w (Calm w (.tuple #[.pointer none, .int .i64 1])) := by
  have HN := Lib.hid (I.new_bad n w h1 h2 h)
  clear h
  go_enter Tryz.func30, Tryz.ntmps30
  go_wp2_with fail
  refine HN.out.mono ?_
  rintro e w1 ⟨rfl, hb⟩
  have HB := Lib.hid hb
  clear hb HN
  go_wp2_with fail
  go_ret2
  exact ⟨rfl, HB.out⟩
def ANewR (I : Impl) (w : World) (n : Nat) (e : Ending) (w' : World) : Prop :=
  ∃ (ab : Nat) (sp : Addr) (g : Nat) (Fs : Nat → Prop), e = .returned (.tuple #[.pointer (some ⟨ab, 0, none⟩), .int .i64 0]) ∧ LieA I w' ab sp (Ar.init n) 0 (some ⟨g, 0, none⟩) n Fs ∧ (∀ k, FootA ab (some ⟨g, 0, none⟩) Fs k → w.heap.size ≤ k) ∧ Below w.heap.size w w'
set_option maxHeartbeats 2000000 in
set_option maxRecDepth 100000 in
theorem a_new (I : Impl) (n : Nat) (w : World) (h1 : 1 ≤ n) (h2 : n ≤ 65536) : Calls Tryz.prog 30 #[.int .i64 (n : Int)] w (ANewR I w n) := by
  obtain ⟨i0, hi, hz0, hz1, hz2⟩ := info_parts celInfo
  have hni : (n : Int) ≤ 65536 := by omega
  have hni1 : (1 : Int) ≤ (n : Int) := by omega
  go_enter Tryz.func30, Tryz.ntmps30
  go_wp2_with fail
  refine (I.new_ok n _ h1 h2).mono ?_
  rintro e w1 ⟨p, Fs, rfl, hs, hF, hb⟩
  obtain ⟨sp, rfl⟩ := I.ptr hs
  go_wp2_with (refine wpList_make_full _ rfl (.tmp 15) (.tmp 15) 77 rfl 0 83 i0 celZ 9 Tryz.underlying77 hi hz0 hz1 .i64 .i64 (n : Int) (n : Int) n rfl rfl rfl rfl (by rw [hz2]; omega) (by unfold maxLen; omega) (Nat.zero_le _) ?_; intro w2 ho2 hg2)
  go_ret2
  have hb2 : Below w1.heap.size w1 w2 := (Below.refl _ _).grown hg2 (Nat.le_refl _) (fun k hk => by cases hk)
  have hal := below_al w2 (Obj.cells #[Value.pointer (some sp), Value.slice (some ⟨w1.heap.size, 0, none⟩) n n, Value.int .u64 0] 79)
  have hs12 := hb2.size
  have hb3 := hb2.trans (hal.mono hs12)
  have hlt := (row_lt ho2 w1.heap.size rfl).2
  have hs01 := hb.size
  rw [cels_zero] at ho2
  refine ⟨w2.heap.size, sp, w1.heap.size, Fs, rfl, ⟨I.below hs hb3, heap_alloc_new w2 _, row_below ho2 hal, fun _ _ => ⟨rfl, rfl⟩, fun _ => ⟨Int.le_refl 0, show (0 : Int) ≤ 9223372036854775807 by decide⟩, fun hf => ?_, fun k hk => ?_⟩, fun k hk => ?_, hb.trans (hb3.mono hs01)⟩
  · have := I.dom hs _ hf; omega
  · simp [Value.ownBlock] at hk
    subst hk
    exact ⟨fun hf => by have := I.dom hs _ hf; omega, by omega⟩
  · rcases hk with rfl | ⟨x, hx, rfl⟩ | hk
    · omega
    · simp at hx; subst hx; exact hs01
    · exact hF k hk
end
def sltZ : Value := .agg #[.bool false, .int .i64 0, .int .u32 0, .int .i64 0, .int .i64 0, .int .u32 0, .int .u32 0, .int .i64 0, .int .i64 0, .int .i64 0, .int .i64 0]
theorem sltInfo : (Tryz.prog.info? 87).map (fun i => (i.zero, i.size, i.bytes)) = some (some sltZ, 11, 80) := by kernel_rfl
def slp (A : Ar) (k : Nat) : List Value := (List.range' 1 k).flatMap (slotV A)
theorem slp_succ (A : Ar) (k : Nat) : slp A (k + 1) = slp A k ++ slotV A (k + 1) := by
  unfold slp
  rw [List.range'_concat, List.flatMap_append]
  simp [Nat.add_comm]
theorem newc11 (w : World) (xs : Array Value) (t : TypeId) : ∀ j u, xs.toList[j]? = some u → (w.alloc (.cells xs t)).cell? ((⟨w.heap.size, 0, none⟩ : Addr).add j) = some u := by
  intro j u hu
  have e : (⟨w.heap.size, 0, none⟩ : Addr).add j = ⟨w.heap.size, j, none⟩ := by unfold Addr.add; split <;> simp_all
  rw [e, cell_of_row _ _ _ _ _ _ (heap_alloc_new w (.cells xs t))]
  simpa using hu
theorem slotV_ones (A : Ar) (k : Nat) : ∀ u ∈ slotV A k, u.oneCell' = true := by
  intro u hu
  simp [slotV, ndV] at hu
  rcases hu with rfl | rfl | rfl | rfl | rfl | rfl | rfl | rfl | rfl | rfl | rfl <;> rfl
theorem step_append11 {P : Program} {w : World} {ops : Array Oper} {o : Oper} {a : Act} {K : Act → World → Prop} {Q : Exit → Act → World → Prop} {E : Prop} (hgd : o.guard = none) (s x : Operand) (t : TypeId)
    (ho : o.op = .call { callee := .builtin .append, args := #[s, x], argTypes := #[t, t] })
    (base : Nat) (e : TypeId) (i : TypeInfo) (z : Value) (size bytes : Nat) (ht : P.underlying t = some (.slice e)) (hi : P.info? e = some i) (hz : i.zero = some z)
    (hsize : i.size = size) (hby : i.bytes = bytes) (hzs : z.cells.size = size) (hsz : 0 < size)
    (v : Value) (n : Nat) (xs : List Value) (hs : a.eval s = v) (hown : w.ownsRow base e size v n xs)
    (ad : Addr) (m c : Nat) (news : List Value) (hx : a.eval x = .slice (some ad) m c) (hl : news.length = m * size) (hnews : ∀ j u, news[j]? = some u → w.cell? (ad.add j) = some u) (h1 : ∀ u ∈ news, u.oneCell' = true)
    (h63 : n + m ≤ maxLen) (hbytes : (n + m) * bytes ≤ 140737488355328) (hbase : base ≤ w.heap.size)
    (h : ∀ v' w', w'.ownsRow base e size v' (n + m) (xs ++ news) → w.grownBy w' v.ownBlock → K (a.put o.dst v') w') : if Region.wanted o (yielded ops a.tmps) = true then Oper.wp P o a w K Q else E := by
  have hw : Region.wanted o (yielded ops a.tmps) = true := by simp [Region.wanted, hgd]
  rw [if_pos hw]
  exact wp_append_own w s x t ho base e i z size bytes ht hi hz hsize hby hzs hsz v n xs hs hown ad m c news hx hl hnews h1 h63 hbytes hbase fun v' w' h2 h3 _ => h v' w' h2 h3
/-- the description at hand in memory, after k slots -/
structure DmpRel (A : Ar) (B : Nat) (w3 : World) (k : Nat) (x : Value) (wr : World) : Prop where
  val : ∃ a c, x = .slice a k c
  row : wr.ownsRow B 87 11 x k (slp A k)
  below : Below w3.heap.size w3 wr
def ADumpR (w : World) (A : Ar) (e : Ending) (w' : World) : Prop :=
  ∃ a c b d, e = .returned (.agg #[.slice a A.σ.cap c, .slice b A.σ.free.length d]) ∧ w'.ownsRow w.heap.size 87 11 (.slice a A.σ.cap c) A.σ.cap (slotsV A) ∧
      w'.ownsRow w.heap.size 26 1 (.slice b A.σ.free.length d) A.σ.free.length (u32s A.σ.free) ∧ Below w.heap.size w w'
theorem row9n {w : World} {g : Nat} {t : TypeId} {c0 c1 c2 c3 c4 c5 c6 c7 c8 : Value} (h : w.heap[g]? = some (.cells #[c0, c1, c2, c3, c4, c5, c6, c7, c8] t (0, 0))) :
    w.cell? ⟨g, 0, none⟩ = some c0 ∧ w.cell? ⟨g, 1, none⟩ = some c1 ∧ w.cell? ⟨g, 2, none⟩ = some c2 ∧ w.cell? ⟨g, 3, none⟩ = some c3 ∧ w.cell? ⟨g, 4, none⟩ = some c4 ∧ w.cell? ⟨g, 5, none⟩ = some c5 ∧ w.cell? ⟨g, 6, none⟩ = some c6 ∧ w.cell? ⟨g, 7, none⟩ = some c7 ∧ w.cell? ⟨g, 8, none⟩ = some c8 := by
  refine ⟨?_, ?_, ?_, ?_, ?_, ?_, ?_, ?_, ?_⟩ <;> (rw [cell_of_row _ _ _ _ _ _ h]; rfl)
/-- the nine cells of a slot, as an array -/
def celA (A : Ar) (i : Nat) : Array Value := #[.int .i64 (A.nd i).key, .int .i64 (A.nd i).val, .int .u32 ((A.nd i).left : Int), .int .u32 ((A.nd i).right : Int), .int .i64 (A.nd i).size, .int .i64 (A.nd i).sum, .int .i64 (A.nd i).mn, .int .i64 (A.nd i).mx, .int .i64 (A.cnt i)]
section
variable {I : Impl} {w w' wr : World} {ab : Nat} {sp : Addr} {A A' : Ar} {rd : Int} {cc g : Nat} {Fs Fs' : Nat → Prop}
set_option maxHeartbeats 4000000 in
set_option maxRecDepth 100000 in
theorem a_dump (h : LieA I w ab sp A rd (some ⟨g, 0, none⟩) cc Fs) : Calls Tryz.prog 10 #[.pointer (some ⟨ab, 0, none⟩)] w (ADumpR w A) := by
  obtain ⟨i0, hi, hz0, hz1, hz2⟩ := info_parts sltInfo
  have HU : Hid _ := Lib.hid Tryz.underlying33
  have hin : (Tryz.prog.info? 33).map (·.size) = some 2 := by kernel_rfl
  have HIN := Lib.hid hin
  have hcap := h.ok.cap2
  have hci : (A.σ.cap : Int) ≤ 65536 := by omega
  have hci0 : (0 : Int) ≤ (A.σ.cap : Int) := by omega
  have HOK := Lib.hid h.ok
  have hb1 := below_al w (Obj.cells #[Value.slice none 0 0, Value.slice none 0 0] 33)
  have h1 := h.below hb1
  have HP0 := Lib.hid (heap_alloc_new w (Obj.cells #[Value.slice none 0 0, Value.slice none 0 0] 33))
  have HB1 := Lib.hid hb1
  clear h hin hb1
  go_enter Tryz.func10, Tryz.ntmps10
  go_upto_region 1 with fail
  generalize w.alloc (Obj.cells #[Value.slice none 0 0, Value.slice none 0 0] 33) = w1 at h1 HP0 HB1 ⊢
  obtain ⟨p0, hp0⟩ : ∃ p0, w.heap.size = p0 := ⟨_, rfl⟩
  rw [hp0] at HP0 ⊢
  have HPP := Lib.hid hp0
  obtain ⟨c0, c1, c2⟩ := h1.cells
  have H1 := Lib.hid h1
  have hsz1 := HB1.out.size
  have hpl : p0 < w1.heap.size := (Array.getElem?_eq_some_iff.1 HP0.out).1
  rw [hp0] at hsz1
  have HPL := Lib.hid hpl
  clear h1 hp0 hpl
  go_upto_region 2 with (refine wpList_make_own _ rfl (.const (.int .i64 0)) (.tmp 11) 30 rfl w1.heap.size 87 i0 sltZ 11 Tryz.underlying30 hi hz0 hz1 .i64 .i64 (A.σ.cap : Int) A.σ.cap rfl rfl rfl (by rw [hz2]; omega) (by unfold maxLen; omega) (Nat.le_refl _) ?_; intro w2 ho2 hg2)
  have hb2 : Below w1.heap.size w1 w2 := (Below.refl _ _).grown hg2 (Nat.le_refl _) (fun k hk => by cases hk)
  have HREL : Hid (DmpRel A w1.heap.size w1 0 (.slice (some ⟨w1.heap.size, 0, none⟩) 0 A.σ.cap) w2) := ⟨⟨_, _, rfl⟩, ho2, hb2⟩
  have h2 := H1.out.below hb2
  clear c0 c1 c2 ho2 hg2 hb2 hsz1
  obtain ⟨c0, c1, c2⟩ := h2.cells
  clear h2
  go_wp2_with fail
  go_loopg [3, 18] A.σ.cap (fun gk x i wr => ∃ k, k ≤ A.σ.cap ∧ gk = A.σ.cap - k ∧ i = .int .i64 (k : Int) ∧ DmpRel A w1.heap.size w1 k x wr)
  case atStart => exact ⟨0, Nat.zero_le _, rfl, rfl, HREL.out⟩
  case round =>
    clear HREL c0 c1 c2
    obtain ⟨k, hk, hg, rfl, hR⟩ := hrel
    have HG := Lib.hid hg
    obtain ⟨xa, xc, rfl⟩ := hR.val
    have HL := Lib.hid (H1.out.below hR.below)
    have HR := Lib.hid hR
    clear hR hg
    by_cases hlt : k < A.σ.cap
    · have hki : (k : Int) < (A.σ.cap : Int) := by omega
      have hki0 : (0 : Int) ≤ (k : Int) := by omega
      obtain ⟨g0, g1, g2, g3, g4, g5, g6, g7, g8⟩ := HL.out.nine hlt
      have HLT := Lib.hid hlt
      have hal := below_al wr (Obj.cells (celA A (k + 1)) 83)
      have HX := Lib.hid (heap_alloc_new wr (Obj.cells (celA A (k + 1)) 83))
      have HL3 := Lib.hid (HL.out.below hal)
      have HR3 : Hid (DmpRel A w1.heap.size w1 k (.slice xa k xc) (wr.alloc (Obj.cells (celA A (k + 1)) 83))) := ⟨⟨_, _, rfl⟩, row_below HR.out.row hal, HR.out.below.trans (hal.mono HR.out.below.size)⟩
      clear hal hlt
      go_upto_region 5 with fail
      rw [show #[Value.int .i64 (A.nd (k + 1)).key, .int .i64 (A.nd (k + 1)).val, .int .u32 ((A.nd (k + 1)).left : Int), .int .u32 ((A.nd (k + 1)).right : Int), .int .i64 (A.nd (k + 1)).size, .int .i64 (A.nd (k + 1)).sum, .int .i64 (A.nd (k + 1)).mn, .int .i64 (A.nd (k + 1)).mx, .int .i64 (A.cnt (k + 1))] = celA A (k + 1) from rfl]
      clear g0 g1 g2 g3 g4 g5 g6 g7 g8
      generalize wr.alloc (Obj.cells (celA A (k + 1)) 83) = w3 at HX HL3 HR3 ⊢
      have HOWN : Hid (∀ b, (Value.slice xa k xc).ownBlock = some b → b < wr.heap.size) := fun b e => (row_lt HR.out.row b e).2
      generalize wr.heap.size = q at HX HOWN ⊢
      have hx := HX.out
      unfold celA at hx
      obtain ⟨g0, g1, g2, g3, g4, g5, g6, g7, g8⟩ := row9n hx
      obtain ⟨c0, c1, c2⟩ := HL3.out.cells
      have hkw : IntKind.u32.wrap ((k : Int) + 1) = (k : Int) + 1 := by rw [IntKind.wrap_u32']; omega
      have hcalls : ∀ wx : World, Below w3.heap.size w3 wx → Calls Tryz.prog 42 #[.pointer (some sp), .int .u32 ((k : Int) + 1)] wx (Quiet wx (.bool (A.σ.on (k + 1)))) ∧ Calls Tryz.prog 43 #[.pointer (some sp), .int .u32 ((k : Int) + 1)] wx (Quiet wx (.int .u32 (A.σ.gen (k + 1)))) := fun wx hb =>
        ⟨I.allocated _ _ _ (k + 1) _ (I.below HL3.out.slots hb) (by omega), I.generation _ _ _ (k + 1) _ (I.below HL3.out.slots hb) (by omega)⟩
      have HCALLS := Lib.hid hcalls
      have hrow : ∀ wx : World, Below w3.heap.size w3 wx → (wx.alloc (Obj.cells (slotV A (k + 1)).toArray 87)).ownsRow w1.heap.size 87 11 (.slice xa k xc) k (slp A k) := fun wx hb => row_below (row_below HR3.out.row hb) (below_al _ _)
      have HROW := Lib.hid hrow
      have hsz3 : w1.heap.size ≤ w3.heap.size := HR3.out.below.size
      have hafter : ∀ wx w6 : World, Below w3.heap.size w3 wx → (wx.alloc (Obj.cells (slotV A (k + 1)).toArray 87)).grownBy w6 (Value.slice xa k xc).ownBlock → Below w1.heap.size w1 w6 ∧ w6.cell? ⟨ab, 0, none⟩ = some (.pointer (some sp)) ∧ w6.cell? ⟨q, 8, none⟩ = some (.int .i64 (A.cnt (k + 1))) ∧
          w6.cell? ⟨q, 0, none⟩ = some (.int .i64 (A.nd (k + 1)).key) ∧ w6.cell? ⟨q, 1, none⟩ = some (.int .i64 (A.nd (k + 1)).val) ∧ w6.cell? ⟨q, 2, none⟩ = some (.int .u32 ((A.nd (k + 1)).left : Int)) ∧ w6.cell? ⟨q, 3, none⟩ = some (.int .u32 ((A.nd (k + 1)).right : Int)) ∧
          w6.cell? ⟨q, 4, none⟩ = some (.int .i64 (A.nd (k + 1)).size) ∧ w6.cell? ⟨q, 5, none⟩ = some (.int .i64 (A.nd (k + 1)).sum) ∧ w6.cell? ⟨q, 6, none⟩ = some (.int .i64 (A.nd (k + 1)).mn) ∧ w6.cell? ⟨q, 7, none⟩ = some (.int .i64 (A.nd (k + 1)).mx) := fun wx w6 hb hg => by
        have hb2 := trans_of' hb (below_al wx (Obj.cells (slotV A (k + 1)).toArray 87))
        have hown : ∀ b, (Value.slice xa k xc).ownBlock = some b → w1.heap.size ≤ b := fun b e => row_from HR.out.row b e
        have hb1 : Below w1.heap.size w1 (wx.alloc (Obj.cells (slotV A (k + 1)).toArray 87)) := HR3.out.below.trans (hb2.mono HR3.out.below.size)
        have hb6 := hb1.grown hg hb1.size hown
        have hc := (H1.out.below hb6).cells.1
        have hql : q < w3.heap.size := (Array.getElem?_eq_some_iff.1 HX.out).1
        have hq := (hg.block q (Nat.lt_of_lt_of_le hql hb2.size) (fun e => by have := HOWN.out q e.symm; omega)).trans ((hb2.block q hql).trans HX.out)
        unfold celA at hq
        obtain ⟨k0, k1, k2, k3, k4, k5, k6, k7, k8⟩ := row9n hq
        exact ⟨hb6, hc, k8, k0, k1, k2, k3, k4, k5, k6, k7⟩
      have HAFTER := Lib.hid hafter
      clear hx hcalls hrow hafter
      go_upto_region 6 with fail
      go_region_held3 (fun w' => w'.cell? ⟨ab, 0, none⟩ = some (.pointer (some sp)) ∧ w'.cell? ⟨q, 8, none⟩ = some (.int .i64 (A.cnt (k + 1))) ∧
        w'.cell? ⟨q, 0, none⟩ = some (.int .i64 (A.nd (k + 1)).key) ∧ w'.cell? ⟨q, 1, none⟩ = some (.int .i64 (A.nd (k + 1)).val) ∧ w'.cell? ⟨q, 2, none⟩ = some (.int .u32 ((A.nd (k + 1)).left : Int)) ∧ w'.cell? ⟨q, 3, none⟩ = some (.int .u32 ((A.nd (k + 1)).right : Int)) ∧
        w'.cell? ⟨q, 4, none⟩ = some (.int .i64 (A.nd (k + 1)).size) ∧ w'.cell? ⟨q, 5, none⟩ = some (.int .i64 (A.nd (k + 1)).sum) ∧ w'.cell? ⟨q, 6, none⟩ = some (.int .i64 (A.nd (k + 1)).mn) ∧ w'.cell? ⟨q, 7, none⟩ = some (.int .i64 (A.nd (k + 1)).mx)) (go_keep) (first
        | (go_at_call 42; refine (HCALLS.out _ (by exact ⟨rfl, rfl, rfl, Nat.le_refl _, fun _ _ => rfl⟩)).1.mono ?_; rintro e wx ⟨rfl, da, rfl⟩)
        | (go_at_call 43; refine (HCALLS.out _ (by exact ⟨rfl, rfl, rfl, Nat.le_refl _, fun _ _ => rfl⟩)).2.mono ?_; rintro e wx ⟨rfl, db, rfl⟩)
        | (refine step_append11 rfl (.tmp 26) (.tmp 44) 30 rfl w1.heap.size 87 i0 sltZ 11 80 Tryz.underlying30 hi hz0 hz1 hz2 rfl (by decide) _ k (slp A k) rfl (HROW.out _ (by exact ⟨rfl, rfl, rfl, Nat.le_refl _, fun _ _ => rfl⟩)) _ 1 1 (slotV A (k + 1)) rfl rfl (newc11 _ _ _) (slotV_ones A _) (by unfold maxLen; omega) (by omega) (by simp; omega) ?_; intro v6 w6 ho6 hg6; obtain ⟨va, vc, rfl⟩ := row_val ho6; obtain ⟨hb6, s0, s1, s2, s3, s4, s5, s6, s7, s8, s9⟩ := HAFTER.out _ w6 (by exact ⟨rfl, rfl, rfl, Nat.le_refl _, fun _ _ => rfl⟩) hg6))
      all_goals
        have HREL : Hid (DmpRel A w1.heap.size w1 (k + 1) (.slice va (k + 1) vc) w6) := ⟨⟨_, _, rfl⟩, by rw [slp_succ]; exact ho6, hb6⟩
        clear ho6 hg6 hb6 s0 s1 s2 s3 s4 s5 s6 s7 s8 s9 c0 c1 c2 g0 g1 g2 g3 g4 g5 g6 g7 g8
        go_wp2_with fail
        go_roundg (A.σ.cap - (k + 1))
        case measure => have := HG.out; have := HLT.out; omega
        case rel => exact ⟨k + 1, by have := HLT.out; omega, rfl, by go_num, HREL.out⟩
    · have hkc : k = A.σ.cap := by omega
      have hkci : ¬ (k : Int) < (A.σ.cap : Int) := by omega
      have HKC := Lib.hid hkc
      clear hkc hlt
      obtain ⟨c0, c1, c2⟩ := HL.out.cells
      go_wp2_with fail
      refine (I.order _ _ _ _ HL.out.slots).mono ?_
      rintro e w4 ⟨b, dd, rfl, hfr, hb4⟩
      have HFR := Lib.hid hfr
      have HR4 : Hid (DmpRel A w1.heap.size w1 k (.slice xa k xc) w4) := ⟨⟨_, _, rfl⟩, row_below HR.out.row hb4, HR.out.below.trans (hb4.mono HR.out.below.size)⟩
      have HP : Hid (w4.heap[p0]? = some (Obj.cells #[Value.slice none 0 0, Value.slice none 0 0] 33 (0, 0))) := (HR4.out.below.block p0 HPL.out).trans HP0.out
      have hs14 := HR.out.below.size
      clear c0 c1 c2 hfr hb4
      go_wp2_with (refine wpList_store_row rfl 33 (.tmp 2) (.tmp 53) rfl p0 #[.slice xa k xc, .slice b A.σ.free.length dd] rfl rfl 33 _ HP.out HIN.out rfl (by simp [Value.oneCell']) ?_)
      refine bodyPost_ret (v := .agg #[.slice xa k xc, .slice b A.σ.free.length dd]) (results_cell_row rfl _ _ p0 33 _ (0, 0) _ rfl (setRow_heap _ _ _ _ _ _ HP.out) HU.out rfl HIN.out) rfl ?_
      have hrow := HR4.out.row
      rw [HKC.out] at hrow ⊢
      have hpp := HPP.out
      have hpl := HPL.out
      have hbb := HB1.out.trans (HR4.out.below.mono HB1.out.size)
      refine ⟨xa, xc, b, dd, rfl, ?_, ?_, below_row hbb (by omega)⟩
      · refine row_mono (row_keep hrow fun j hj => setRow_other _ _ _ _ ?_) HB1.out.size
        have := row_from hrow j hj; omega
      · refine row_mono (row_keep HFR.out fun j hj => setRow_other _ _ _ _ ?_) (by omega)
        have := row_from HFR.out j hj; omega
end
def IsA (I : Impl) (w : World) (p : Value) (A : Ar) (rd : Int) (F : Nat → Prop) : Prop :=
  ∃ (ab : Nat) (sp : Addr) (g cc : Nat) (Fs : Nat → Prop), p = .pointer (some ⟨ab, 0, none⟩) ∧ LieA I w ab sp A rd (some ⟨g, 0, none⟩) cc Fs ∧ ∀ k, F k ↔ FootA ab (some ⟨g, 0, none⟩) Fs k
def arenaImpl : AImpl where
  Is := IsA slotsImpl
  dom := fun h k hk => by
    obtain ⟨ab, sp, g, cc, Fs, rfl, hl, hF⟩ := h
    exact hl.dom k ((hF k).1 hk)
  keep := fun h hk => by
    obtain ⟨ab, sp, g, cc, Fs, rfl, hl, hF⟩ := h
    exact ⟨ab, sp, g, cc, Fs, rfl, hl.keep fun k h1 => hk k ((hF k).2 h1), hF⟩
  ok := fun h => by
    obtain ⟨ab, sp, g, cc, Fs, rfl, hl, hF⟩ := h
    exact hl.ok
  ptr := fun h => by
    obtain ⟨ab, sp, g, cc, Fs, rfl, hl, hF⟩ := h
    exact ⟨_, rfl⟩
  new_ok := fun n w h1 h2 => (a_new slotsImpl n w h1 h2).mono fun e w1 ⟨ab, sp, g, Fs, he, hl, hf, hb⟩ => ⟨_, FootA ab (some ⟨g, 0, none⟩) Fs, he, ⟨ab, sp, g, n, Fs, rfl, hl, fun k => Iff.rfl⟩, hf, hb⟩
  new_bad := a_new_bad slotsImpl
  make := fun p A rd F key val l r held w h hi ha hm h1 h2 h3 h4 h5 h6 => by
    obtain ⟨ab, sp, g, cc, Fs, rfl, hl, hF⟩ := h
    obtain rfl : F = FootA ab (some ⟨g, 0, none⟩) Fs := funext fun k => propext (hF k)
    refine (a_make hl ha key val l r h5 h6 h3 h4 (fun i hon => cnt_le hi hm hon)).mono ?_
    rintro e w1 ⟨Fs', hal, g1, g2, g3⟩
    refine ⟨FootA ab (some ⟨g, 0, none⟩) Fs', hal, fun hh => ?_, fun hh hf => ?_, fun hh i t hf => ?_⟩
    · exact ⟨(g1 hh).1, ab, sp, g, cc, Fs', rfl, (g1 hh).2, fun k => Iff.rfl⟩
    · exact ⟨(g2 hh hf).1, ab, sp, g, cc, Fs', rfl, (g2 hh hf).2, fun k => Iff.rfl⟩
    · exact ⟨(g3 hh i t hf).1, ab, sp, g, cc, Fs', rfl, (g3 hh i t hf).2, fun k => Iff.rfl⟩
  node := fun p A rd F i w h h0 h1 hi => by
    obtain ⟨ab, sp, g, cc, Fs, rfl, hl, hF⟩ := h
    obtain rfl : F = FootA ab (some ⟨g, 0, none⟩) Fs := funext fun k => propext (hF k)
    refine (a_node hl i hi h0 h1).mono ?_
    rintro e w1 ⟨rfl, h2, hal⟩
    refine ⟨FootA ab (some ⟨g, 0, none⟩) Fs, hal, fun ho => ?_, fun ho => ?_⟩
    · rw [ho, if_neg (by simp)] at h2
      exact ⟨by rw [ho, (hl.off i ho).2]; rfl, ab, sp, g, cc, Fs, rfl, h2, fun k => Iff.rfl⟩
    · rw [if_pos ho] at h2
      exact ⟨by rw [ho]; rfl, ab, sp, g, cc, Fs, rfl, h2, fun k => Iff.rfl⟩
  size := fun p A rd F i w h h0 h1 hi => by
    obtain ⟨ab, sp, g, cc, Fs, rfl, hl, hF⟩ := h
    obtain rfl : F = FootA ab (some ⟨g, 0, none⟩) Fs := funext fun k => propext (hF k)
    refine (a_size hl i hi h0 h1).mono ?_
    rintro e w1 ⟨rfl, h2, hal⟩
    refine ⟨FootA ab (some ⟨g, 0, none⟩) Fs, hal, fun ho => ?_, fun ho => ?_⟩
    · rw [ho, if_neg (by simp)] at h2
      exact ⟨by rw [(hl.off i ho).2]; rfl, ab, sp, g, cc, Fs, rfl, h2, fun k => Iff.rfl⟩
    · rw [if_pos ho] at h2
      exact ⟨rfl, ab, sp, g, cc, Fs, rfl, h2, fun k => Iff.rfl⟩
  retain := fun p A rd F i w h hi hc => by
    obtain ⟨ab, sp, g, cc, Fs, rfl, hl, hF⟩ := h
    obtain rfl : F = FootA ab (some ⟨g, 0, none⟩) Fs := funext fun k => propext (hF k)
    by_cases hx : A.Idx i
    · refine (a_retain hl i hi hx hc).mono ?_
      rintro e w1 ⟨rfl, h2, hal⟩
      exact ⟨FootA ab (some ⟨g, 0, none⟩) Fs, hal, fun h => absurd hx h, fun _ => ⟨rfl, ab, sp, g, cc, Fs, rfl, h2, fun k => Iff.rfl⟩⟩
    · refine (a_retain_bad hl i hi hx).mono ?_
      rintro e w1 ⟨rfl, hb⟩
      exact ⟨FootA ab (some ⟨g, 0, none⟩) Fs, .of_below hb, fun _ => ⟨rfl, ab, sp, g, cc, Fs, rfl, hl.below hb, fun k => Iff.rfl⟩, fun h => absurd h hx⟩
  release := fun p A rd F i held w h hi hinv => by
    obtain ⟨ab, sp, g, cc, Fs, rfl, hl, hF⟩ := h
    obtain rfl : F = FootA ab (some ⟨g, 0, none⟩) Fs := funext fun k => propext (hF k)
    by_cases hx : A.Idx i
    · refine (a_release hl i hi hx (hinv hx)).mono ?_
      rintro e w1 ⟨Fs', hal, rfl, h2⟩
      exact ⟨FootA ab (some ⟨g, 0, none⟩) Fs', hal, fun h => absurd hx h, fun _ => ⟨rfl, ab, sp, g, cc, Fs', rfl, h2, fun k => Iff.rfl⟩⟩
    · refine (a_release_bad hl i hi hx).mono ?_
      rintro e w1 ⟨rfl, hb⟩
      exact ⟨FootA ab (some ⟨g, 0, none⟩) Fs, .of_below hb, fun _ => ⟨rfl, ab, sp, g, cc, Fs, rfl, hl.below hb, fun k => Iff.rfl⟩, fun h => absurd h hx⟩
  freeN := fun p A rd F w h => by
    obtain ⟨ab, sp, g, cc, Fs, rfl, hl, hF⟩ := h
    exact a_free hl
  capacity := fun p A rd F w h => by
    obtain ⟨ab, sp, g, cc, Fs, rfl, hl, hF⟩ := h
    exact a_capacity hl
  reads := fun p A rd F w h => by
    obtain ⟨ab, sp, g, cc, Fs, rfl, hl, hF⟩ := h
    exact a_reads hl
  dump := fun p A rd F w h => by
    obtain ⟨ab, sp, g, cc, Fs, rfl, hl, hF⟩ := h
    exact a_dump hl
end Go.Proofs.YtfihklpofmcfgaaGreat
namespace Go.Proofs.YtfihklpofmcfgaaGreat
structure Fd where
  kind : Int
  slot : Nat
  want : Int
  have_ : Int
def opt (b : Bool) (f : Fd) : List Fd := if b = true then [f] else []
section
variable (S : Nat → Sl) (n : Nat) (fr rs : List Nat) (R : Nat → Bool)
def wantFree (i : Nat) : Int := if (S i).on = true then 0 else 1
def F1 (i : Nat) : List Fd := opt (((fr.count (i + 1) : Nat) : Int) != wantFree S i) ⟨1, i + 1, wantFree S i, ((fr.count (i + 1) : Nat) : Int)⟩
/-- the size by the first t children -/
def szF (i : Nat) : Nat → Int
  | 0 => 1
  | t + 1 => if Al S n (kd (S i) t) then IntKind.i64.wrap (szF i t + (S (kd (S i) t - 1)).nd.size) else szF i t
def F3 (i : Nat) : List Fd := opt (szF S n i 2 != (S i).nd.size) ⟨3, i + 1, szF S n i 2, (S i).nd.size⟩
def wantCount (i : Nat) : Int := if (S i).on = true then ((eg S n (i + 1) + rs.count (i + 1) : Nat) : Int) else 0
def F4 (i : Nat) : List Fd := opt (wantCount S n rs i != (S i).cnt) ⟨4, i + 1, wantCount S n rs i, (S i).cnt⟩
def F5 (i : Nat) : List Fd := opt ((S i).on && !R i) ⟨5, i + 1, 0, 0⟩
end
end Go.Proofs.YtfihklpofmcfgaaGreat
set_option linter.unusedSimpArgs false
namespace Go.Proofs.YtfihklpofmcfgaaGreat
open Go.RowKit
set_option maxRecDepth 100000 in
theorem refBalanced_any (l r : Int) (w : World) (hl0 : -9223372036854775808 ≤ l) (hl1 : l ≤ 9223372036854775807) (hr0 : -9223372036854775808 ≤ r) (hr1 : r ≤ 9223372036854775807) :
    Calls Tryz.prog 91 #[.int .i64 l, .int .i64 r] w fun e w' => e = .returned (.bool (bal l r)) ∧ w' = w := by
  by_cases h : 0 ≤ l ∧ l ≤ 2147483647 ∧ 0 ≤ r ∧ r ≤ 2147483647
  · obtain ⟨h1, h2, h3, h4⟩ := h
    have HB : Hid (bal l r = (decide (l + 1 ≤ 3 * (r + 1)) && decide (r + 1 ≤ 3 * (l + 1)))) := by
      unfold bal
      rw [← Bool.decide_and]
      exact decide_eq_decide.2 ⟨fun h => ⟨h.2.2.2.2.1, h.2.2.2.2.2⟩, fun h => ⟨h1, h2, h3, h4, h.1, h.2⟩⟩
    have e1 : IntKind.i64.wrap (l + 1) = l + 1 := by rw [IntKind.wrap_i64]; omega
    have e2 : IntKind.i64.wrap (r + 1) = r + 1 := by rw [IntKind.wrap_i64]; omega
    have e3 : IntKind.i64.wrap (3 * (r + 1)) = 3 * (r + 1) := by rw [IntKind.wrap_i64]; omega
    have e4 : IntKind.i64.wrap (3 * (l + 1)) = 3 * (l + 1) := by rw [IntKind.wrap_i64]; omega
    have g1 : decide (l < 0) = false := decide_eq_false (by omega)
    have g2 : decide (2147483647 < l) = false := decide_eq_false (by omega)
    have g3 : decide (r < 0) = false := decide_eq_false (by omega)
    have g4 : decide (2147483647 < r) = false := decide_eq_false (by omega)
    rw [HB.out]
    clear HB hl0 hl1 hr0 hr1 h1 h2 h3 h4
    by_cases hc : l + 1 ≤ 3 * (r + 1)
    · have hc2 := decide_eq_true hc
      go_enter Tryz.func91, Tryz.ntmps91
      go_wp2
      go_ret
      exact ⟨by simp [hc], rfl⟩
    · have hc2 := decide_eq_false hc
      go_enter Tryz.func91, Tryz.ntmps91
      go_wp2
      go_ret
      exact ⟨by simp [hc], rfl⟩
  · have HB : bal l r = false := decide_eq_false fun h2 => h ⟨h2.1, h2.2.1, h2.2.2.1, h2.2.2.2.1⟩
    rw [HB]
    clear HB
    by_cases h1 : l < 0
    · have g1 := decide_eq_true h1
      clear h h1
      go_enter Tryz.func91, Tryz.ntmps91
      go_wp2
      go_ret
      exact ⟨rfl, rfl⟩
    · have g1 := decide_eq_false h1
      by_cases h2 : 2147483647 < l
      · have g2 := decide_eq_true h2
        clear h h1 h2
        go_enter Tryz.func91, Tryz.ntmps91
        go_wp2
        go_ret
        exact ⟨rfl, rfl⟩
      · have g2 := decide_eq_false h2
        by_cases h3 : r < 0
        · have g3 := decide_eq_true h3
          clear h h1 h2 h3
          go_enter Tryz.func91, Tryz.ntmps91
          go_wp2
          go_ret
          exact ⟨rfl, rfl⟩
        · have g3 := decide_eq_false h3
          have g4 : decide (2147483647 < r) = true := decide_eq_true (by omega)
          clear h h1 h2 h3
          go_enter Tryz.func91, Tryz.ntmps91
          go_wp2
          go_ret
          exact ⟨rfl, rfl⟩
theorem below_new7 (w : World) (o : Obj) : Below w.heap.size w (w.alloc o) := (Below.refl _ _).alloc (Nat.le_refl _) _
def ndRow (x : Nd) : Array Value := #[.int .i64 x.key, .int .i64 x.val, .int .u32 (x.left : Int), .int .u32 (x.right : Int), .int .i64 x.size, .int .i64 x.sum, .int .i64 x.mn, .int .i64 x.mx]
end Go.Proofs.YtfihklpofmcfgaaGreat
