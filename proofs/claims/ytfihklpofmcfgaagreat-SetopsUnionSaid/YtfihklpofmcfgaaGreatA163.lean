/- Of the proofs of SetopsUnion, SetopsIntersect, SetopsSubtract: ArOk6, DumpB, DumpR. -/
import Derived.Test.YtfihklpofmcfgaaGreatA162
import Derived.Deep.QuietTactic
import Derived.BigQuiet
import Derived.BigGuardPart
import Derived.Deep.CutRange
set_option linter.unusedVariables false
namespace Go.Proofs.YtfihklpofmcfgaaGreat
open Go.RowKit
def Nd.base (key val : Int) (l r : Nat) : Nd := ⟨key, val, l, r, 1, val, val, val⟩
theorem add_node {A : Ar} (hok : A.σ.Ok) (ha : A.Agg) (hoff : ∀ i, A.σ.on i = false → A.nd i = Nd.zero) {key val : Int} {l r : Nat} (hl : A.Idx l) (hr : A.Idx r) (hv1 : -9223372036854775808 ≤ val) (hv2 : val ≤ 9223372036854775807) :
    ((Nd.base key val l r).add (A.nd l)).add (A.nd r) = A.node key val l r := by
  have h0 : A.nd 0 = Nd.zero := hoff 0 (by cases hq : A.σ.on 0 with | false => rfl | true => have := hok.on 0 hq; omega)
  have hsz : ∀ i, A.Idx i → (i = 0 ∧ (A.nd i).size = 0 ∧ A.nd i = Nd.zero) ∨ (i ≠ 0 ∧ (A.nd i).size ≠ 0) := fun i hi => by
    by_cases e : i = 0
    · subst e; exact .inl ⟨rfl, by rw [h0]; rfl, h0⟩
    · rcases hi with h1 | h1
      · exact absurd h1 e
      · have := (ha.size i h1).1; exact .inr ⟨e, by omega⟩
  have hw : IntKind.i64.wrap val = val := by rw [IntKind.wrap_i64]; omega
  unfold Ar.node Ar.sz Ar.sm Ar.low Ar.high Nd.add Nd.base
  rcases hsz l hl with ⟨rfl, e1, e2⟩ | ⟨e1, e2⟩ <;> rcases hsz r hr with ⟨rfl, e3, e4⟩ | ⟨e3, e4⟩
  · simp [e1, hw]
  · simp [e1, e3, e4, hw]
  · simp [e3, e1, e2]
    rw [IntKind.wrap_i64, IntKind.wrap_i64]; omega
  · simp [e1, e2, e3, e4]
theorem add_size (x c : Nd) : (x.add c).size = x.size + c.size := by
  unfold Nd.add
  split
  · omega
  · rfl
theorem node_sizes {A : Ar} (ha : A.Agg) (hoff : ∀ i, A.σ.on i = false → A.nd i = Nd.zero) (i : Nat) : 0 ≤ (A.nd i).size ∧ (A.nd i).size ≤ 2147483647 := by
  cases ho : A.σ.on i with
  | true => have := ha.size i ho; omega
  | false => rw [hoff i ho]; exact ⟨Int.le_refl 0, by decide⟩
theorem row8v {w : World} {b : Nat} {t : TypeId} {x : Nd} (h : w.heap[b]? = some (.cells (nodA x) t (0, 0))) :
    w.cell? ⟨b, 0, none⟩ = some (.int .i64 x.key) ∧ w.cell? ⟨b, 1, none⟩ = some (.int .i64 x.val) ∧ w.cell? ⟨b, 2, none⟩ = some (.int .u32 (x.left : Int)) ∧ w.cell? ⟨b, 3, none⟩ = some (.int .u32 (x.right : Int)) ∧ w.cell? ⟨b, 4, none⟩ = some (.int .i64 x.size) ∧ w.cell? ⟨b, 5, none⟩ = some (.int .i64 x.sum) ∧ w.cell? ⟨b, 6, none⟩ = some (.int .i64 x.mn) ∧ w.cell? ⟨b, 7, none⟩ = some (.int .i64 x.mx) := row8n h
section
variable {I : Impl} {w w' : World} {ab : Nat} {sp : Addr} {A A' : Ar} {rd : Int} {ca : Option Addr} {cc g : Nat} {Fs Fs' : Nat → Prop}
def AsmRes (w : World) (A : Ar) (key val : Int) (l r : Nat) (e : Ending) (w' : World) : Prop :=
  ((A.Idx l ∧ A.Idx r ∧ (A.node key val l r).size ≤ 2147483647) ∧ e = .returned (.tuple #[.agg (nodA (A.node key val l r)), .bool true]) ∨ ¬ (A.Idx l ∧ A.Idx r ∧ (A.node key val l r).size ≤ 2147483647) ∧ e = .returned (.tuple #[.agg (nodA Nd.zero), .bool false])) ∧ Below w.heap.size w w'
theorem idx_true {A : Ar} {i : Nat} (h : (decide (i = 0) || A.σ.on i) = true) : A.Idx i := by
  simp at h
  exact h
theorem idx_false {A : Ar} {i : Nat} (h : (decide (i = 0) || A.σ.on i) = false) : ¬ A.Idx i := by
  simp at h
  rintro (e | e)
  · exact h.1 e
  · rw [h.2] at e; cases e
theorem trans_of' {w a b : World} (h : Below w.heap.size w a) (hb : Below a.heap.size a b) : Below w.heap.size w b := h.trans (hb.mono h.size)
theorem below_blk {w w' : World} {p : Nat} (h : Below p w w') (hp : w.heap.size = p) : Below w.heap.size w w' := by rw [hp]; exact h
theorem keep_blk {w w' : World} {b : Nat} {o : Obj} (h : w.heap[b]? = some o) (hb : Below w.heap.size w w') : w'.heap[b]? = some o := (hb.block b (Array.getElem?_eq_some_iff.1 h).1).trans h
set_option maxHeartbeats 4000000 in
set_option maxRecDepth 100000 in
theorem a_assemble (h : LieA I w ab sp A rd (some ⟨g, 0, none⟩) cc Fs) (ha : A.Agg) (key val : Int) (l r : Nat) (hl : l < 4294967296) (hr : r < 4294967296) (hv1 : -9223372036854775808 ≤ val) (hv2 : val ≤ 9223372036854775807) :
    Calls Tryz.prog 92 #[.pointer (some ⟨ab, 0, none⟩), .int .i64 key, .int .i64 val, .int .u32 (l : Int), .int .u32 (r : Int)] w (AsmRes w A key val l r) := by
  have HU : Hid _ := Lib.hid Tryz.underlying81
  have HIN := Lib.hid nodInfo
  have hb1 := below_al w (Obj.cells (nodA Nd.zero) 81)
  have HP := Lib.hid (heap_alloc_new w (Obj.cells (nodA Nd.zero) 81))
  have HB1 := Lib.hid hb1
  have H2 := Lib.hid (h.below hb1)
  have HOK := Lib.hid h.ok
  have hoff : ∀ i, A.σ.on i = false → A.nd i = Nd.zero := fun i hi => (h.off i hi).2
  have HADD : Hid (A.Idx l → A.Idx r → ((Nd.base key val l r).add (A.nd l)).add (A.nd r) = A.node key val l r) := fun h1 h2 => add_node h.ok ha hoff h1 h2 hv1 hv2
  have HSL := Lib.hid (node_sizes ha hoff l)
  have HSR := Lib.hid (node_sizes ha hoff r)
  clear h hb1 ha hoff
  go_enter Tryz.func92, Tryz.ntmps92
  go_upto_region 1 with fail
  rw [show #[Value.int .i64 0, .int .i64 0, .int .u32 0, .int .u32 0, .int .i64 0, .int .i64 0, .int .i64 0, .int .i64 0] = nodA Nd.zero from rfl]
  generalize w.alloc (Obj.cells (nodA Nd.zero) 81) = w1 at HP HB1 H2 ⊢
  obtain ⟨p, hp⟩ : ∃ p, w.heap.size = p := ⟨_, rfl⟩
  rw [hp] at HP HB1 ⊢
  have HPP := Lib.hid hp
  clear hp
  go_wp2_with fail
  refine (a_child H2.out l hl).mono ?_
  rintro e w2 ⟨rfl, hb2⟩
  have HP2 := Lib.hid (keep_blk HP.out hb2)
  have H3 := Lib.hid (H2.out.below hb2)
  have HBA := Lib.hid (trans_of' (below_blk HB1.out HPP.out) hb2)
  clear hb2
  obtain ⟨bl, hbl⟩ : ∃ bl, (decide (l = 0) || A.σ.on l) = bl := ⟨_, rfl⟩
  rw [hbl]
  have HBL := Lib.hid hbl
  clear hbl
  have hal3 := below_al w2 (Obj.cells (nodA (A.nd l)) 81)
  have hx3 := heap_alloc_new w2 (Obj.cells (nodA (A.nd l)) 81)
  have H4 := Lib.hid (H3.out.below hal3)
  have HP3 := Lib.hid (keep_blk HP2.out hal3)
  have HBB := Lib.hid (trans_of' HBA.out hal3)
  have HX3 := Lib.hid hx3
  clear hal3 hx3
  unfold nodA
  go_upto_region 2 with fail
  unfold nodA at HX3 H4 HP3 HBB
  generalize w2.alloc _ = w3 at HX3 H4 HP3 HBB ⊢
  obtain ⟨q, hq⟩ : ∃ q, w2.heap.size = q := ⟨_, rfl⟩
  rw [hq] at HX3 ⊢
  have HQ := Lib.hid hq
  clear hq
  go_wp2_with fail
  refine (a_child H4.out r hr).mono ?_
  rintro e w4 ⟨rfl, hb4⟩
  have HP4 := Lib.hid (keep_blk HP3.out hb4)
  have HX4 := Lib.hid (keep_blk HX3.out hb4)
  have HBC := Lib.hid (trans_of' HBB.out hb4)
  clear hb4
  obtain ⟨br, hbr⟩ : ∃ br, (decide (r = 0) || A.σ.on r) = br := ⟨_, rfl⟩
  rw [hbr]
  have HBR := Lib.hid hbr
  clear hbr
  have hal5 := below_al w4 (Obj.cells (nodA (A.nd r)) 81)
  have hx5 := heap_alloc_new w4 (Obj.cells (nodA (A.nd r)) 81)
  have HP5 := Lib.hid (keep_blk HP4.out hal5)
  have HY5 := Lib.hid (keep_blk HX4.out hal5)
  have HBD := Lib.hid (trans_of' HBC.out hal5)
  have HX5 := Lib.hid hx5
  clear hal5 hx5
  unfold nodA
  go_upto_region 3 with fail
  unfold nodA at HX5 HP5 HY5 HBD
  generalize w4.alloc _ = w5 at HX5 HP5 HY5 HBD ⊢
  obtain ⟨q2, hq2⟩ : ∃ q2, w4.heap.size = q2 := ⟨_, rfl⟩
  rw [hq2] at HX5 ⊢
  have HQ2 := Lib.hid hq2
  clear hq2
  have HSZ : Hid (A.Idx l → A.Idx r → (A.node key val l r).size = 1 + (A.nd l).size + (A.nd r).size) := fun h1 h2 => by
    rw [← HADD.out h1 h2, add_size, add_size]; rfl
  cases bl with
  | false =>
    go_wp2_with (refine wpList_store_row rfl 81 (.tmp 10) (.tmp 43) rfl p (nodA Nd.zero) rfl rfl 81 _ HP5.out HIN.out rfl (nod_ones _) ?_)
    refine bodyPost_ret (results_row_tmp rfl _ _ p 81 (nodA Nd.zero) (0, 0) _ rfl (setRow_heap _ _ _ _ _ _ HP5.out) HU.out rfl HIN.out) rfl ?_
    have hpp := HPP.out
    exact ⟨.inr ⟨fun h => idx_false HBL.out h.1, rfl⟩, below_row HBD.out (by omega)⟩
  | true =>
    cases br with
    | false =>
      go_wp2_with (refine wpList_store_row rfl 81 (.tmp 10) (.tmp 43) rfl p (nodA Nd.zero) rfl rfl 81 _ HP5.out HIN.out rfl (nod_ones _) ?_)
      refine bodyPost_ret (results_row_tmp rfl _ _ p 81 (nodA Nd.zero) (0, 0) _ rfl (setRow_heap _ _ _ _ _ _ HP5.out) HU.out rfl HIN.out) rfl ?_
      have hpp := HPP.out
      exact ⟨.inr ⟨fun h => idx_false HBR.out h.2.1, rfl⟩, below_row HBD.out (by omega)⟩
    | true =>
      obtain ⟨_, _, _, _, y4, _⟩ := row8v (x := A.nd l) HY5.out
      obtain ⟨_, _, _, _, z4, _⟩ := row8v (x := A.nd r) HX5.out
      obtain ⟨sl0, sl1⟩ := HSL.out
      obtain ⟨sr0, sr1⟩ := HSR.out
      by_cases hs : (A.nd l).size + (A.nd r).size ≤ 2147483646
      · have HS := Lib.hid hs
        have hg : decide (2147483646 - (A.nd r).size < (A.nd l).size) = false := decide_eq_false (by omega)
        clear hs
        go_upto_region 6 with fail
        have hal6 := below_al w5 (Obj.cells (nodA (Nd.base key val l r)) 81)
        have hx6 := heap_alloc_new w5 (Obj.cells (nodA (Nd.base key val l r)) 81)
        have HP6 := Lib.hid (keep_blk HP5.out hal6)
        have HY6 := Lib.hid (keep_blk HY5.out hal6)
        have HX6 := Lib.hid (keep_blk HX5.out hal6)
        have HBE := Lib.hid (trans_of' HBD.out hal6)
        have HZ6 := Lib.hid hx6
        have n1 : Hid (p < w5.heap.size ∧ q < w5.heap.size ∧ q2 < w5.heap.size) := ⟨(Array.getElem?_eq_some_iff.1 HP5.out).1, (Array.getElem?_eq_some_iff.1 HY5.out).1, (Array.getElem?_eq_some_iff.1 HX5.out).1⟩
        clear hal6 hx6 y4 z4
        rw [show #[Value.int .i64 key, .int .i64 val, .int .u32 (l : Int), .int .u32 (r : Int), .int .i64 1, .int .i64 val, .int .i64 val, .int .i64 val] = nodA (Nd.base key val l r) from rfl]
        generalize w5.alloc (Obj.cells (nodA (Nd.base key val l r)) 81) = w6 at HP6 HY6 HX6 HBE HZ6 ⊢
        obtain ⟨q3, hq3⟩ : ∃ q3, w5.heap.size = q3 := ⟨_, rfl⟩
        rw [hq3] at HZ6 n1 ⊢
        have HQ3 := Lib.hid hq3
        clear hq3
        obtain ⟨y0, y1, y2, y3, y4, y5, y6, y7⟩ := row8v (x := A.nd l) HY6.out
        go_wp2_with fail
        refine (a_addAgg _ q3 (Nd.base key val l r) (A.nd l) HZ6.out (show (0 : Int) ≤ 1 by decide) (show (1 : Int) ≤ 2147483647 by decide) sl0 sl1).mono ?_
        rintro e w7 ⟨⟨v7, rfl⟩, hZ7, ha7⟩
        have hk7 : ∀ b, b < q3 → b < w6.heap.size → w7.heap[b]? = w6.heap[b]? := fun b hb hb2 => ha7.block b hb2 (by omega)
        have HZ7 := Lib.hid hZ7
        have n6 : Hid (p < w6.heap.size ∧ q2 < w6.heap.size) := ⟨(Array.getElem?_eq_some_iff.1 HP6.out).1, (Array.getElem?_eq_some_iff.1 HX6.out).1⟩
        have HP7 := Lib.hid ((hk7 p n1.out.1 n6.out.1).trans HP6.out)
        have HX7 := Lib.hid ((hk7 q2 n1.out.2.2 n6.out.2).trans HX6.out)
        have HBF : Hid (Below p w w7) := by
          have h9 := HBE.out
          rw [HPP.out] at h9
          exact ha7.below h9 (by have := h9.size; rw [HPP.out] at this; exact this) (fun k hk => by have := n1.out.1; omega)
        clear ha7 hk7 y0 y1 y2 y3 y4 y5 y6 y7 hZ7
        obtain ⟨z0, z1, z2, z3, z4, z5, z6, z7⟩ := row8v (x := A.nd r) HX7.out
        go_wp2_with fail
        have hsz1 := add_size (Nd.base key val l r) (A.nd l)
        have hb1 : (Nd.base key val l r).size = 1 := rfl
        refine (a_addAgg _ q3 ((Nd.base key val l r).add (A.nd l)) (A.nd r) HZ7.out (by omega) (by have := HS.out; omega) sr0 sr1).mono ?_
        rintro e w8 ⟨⟨v8, rfl⟩, hZ8, ha8⟩
        have n7 : Hid (p < w7.heap.size) := (Array.getElem?_eq_some_iff.1 HP7.out).1
        have HP8 := Lib.hid ((ha8.block p n7.out (by have := n1.out.1; omega)).trans HP7.out)
        have HBG : Hid (Below p w w8) := by
          have h9 := HBF.out
          exact ha8.below h9 (by have := h9.size; rw [HPP.out] at this; exact this) (fun k hk => by have := n1.out.1; omega)
        have HID := Lib.hid (idx_true HBL.out)
        have HIE := Lib.hid (idx_true HBR.out)
        rw [HADD.out HID.out HIE.out] at hZ8
        have HZ8 := Lib.hid hZ8
        clear ha8 hZ8 z0 z1 z2 z3 z4 z5 z6 z7 hsz1 hb1
        obtain ⟨z0, z1, z2, z3, z4, z5, z6, z7⟩ := row8v HZ8.out
        go_wp2_with (refine wpList_store_row rfl 81 (.tmp 10) (.tmp 56) rfl p (nodA (A.node key val l r)) rfl rfl 81 _ HP8.out HIN.out rfl (nod_ones _) ?_)
        refine bodyPost_ret (results_row_tmp rfl _ _ p 81 (nodA (A.node key val l r)) (0, 0) _ rfl (setRow_heap _ _ _ _ _ _ HP8.out) HU.out rfl HIN.out) rfl ?_
        have hpp := HPP.out
        exact ⟨.inl ⟨⟨HID.out, HIE.out, by rw [HSZ.out HID.out HIE.out]; have := HS.out; omega⟩, rfl⟩, below_row (by rw [hpp]; exact HBG.out) (by omega)⟩
      · have HS := Lib.hid hs
        have hg : 2147483646 - (A.nd r).size < (A.nd l).size := by omega
        clear hs
        go_wp2_with (refine wpList_store_row rfl 81 (.tmp 10) (.tmp 43) rfl p (nodA Nd.zero) rfl rfl 81 _ HP5.out HIN.out rfl (nod_ones _) ?_)
        refine bodyPost_ret (results_row_tmp rfl _ _ p 81 (nodA Nd.zero) (0, 0) _ rfl (setRow_heap _ _ _ _ _ _ HP5.out) HU.out rfl HIN.out) rfl ?_
        have hpp := HPP.out
        exact ⟨.inr ⟨fun h => by have h1 := HSZ.out h.1 h.2.1; have h2 := h.2.2; have h3 := HS.out; omega, rfl⟩, below_row HBD.out (by omega)⟩
end
/-- slot i is taken, with a node and one reference -/
def Ar.took (A : Ar) (i : Nat) (t : List Nat) (x : Nd) : Ar := ⟨A.σ.take i t, fun j => if j = i then x else A.nd j, fun j => if j = i then 1 else A.cnt j⟩
theorem cels_patch (A A' : Ar) {j : Nat} (hc : A'.σ.cap = A.σ.cap) (hj : j < A.σ.cap) (hn : ∀ i, i ≠ j + 1 → A'.nd i = A.nd i) (hcn : ∀ i, i ≠ j + 1 → A'.cnt i = A.cnt i) : patch (celsV A) (j * 9) (celV A' (j + 1)) = celsV A' := by
  refine cels_ext (by rw [patch_len, cels_len, hc]) fun i k hi hk => ?_
  rw [hc] at hi
  rw [patch_at, cel_len, cels_len]
  by_cases e : i = j
  · subst e
    rw [if_pos (by omega), show i * 9 + k - i * 9 = k by omega]
  · rw [if_neg (by omega), cels_at A hi hk]
    unfold celV
    rw [hn (i + 1) (by omega), hcn (i + 1) (by omega)]
theorem ret_σ (A : Ar) (l : Nat) : (A.ret l).σ = A.σ := by unfold Ar.ret; split <;> rfl
theorem ret_nd (A : Ar) (l : Nat) : (A.ret l).nd = A.nd := by unfold Ar.ret; split <;> rfl
theorem ret_cnt (A : Ar) (l m : Nat) : (A.ret l).cnt m = A.cnt m + (if l ≠ 0 ∧ m = l then 1 else 0) := by
  unfold Ar.ret Ar.inc
  by_cases h : l = 0
  · subst h; simp
  · rw [if_neg h]
    show (if m = l then A.cnt l + 1 else A.cnt m) = _
    by_cases e : m = l
    · subst e; simp [h]
    · simp [e]
theorem ar_ext {A B : Ar} (h1 : A.σ = B.σ) (h2 : A.nd = B.nd) (h3 : ∀ m, A.cnt m = B.cnt m) : A = B := by
  cases A; cases B
  have h4 := funext h3
  simp only at h1 h2 h4
  subst h1 h2 h4
  rfl
theorem made_took (A : Ar) {i l r : Nat} (t : List Nat) (key val : Int) (hl : l ≠ i) (hr : r ≠ i) (hi : i ≠ 0) : ((A.took i t (A.node key val l r)).ret l).ret r = A.made i t (A.node key val l r) := by
  refine ar_ext (by rw [ret_σ, ret_σ]; rfl) (by rw [ret_nd, ret_nd]; rfl) fun m => ?_
  rw [ret_cnt, ret_cnt]
  show (if m = i then (1 : Int) else A.cnt m) + _ + _ = if m = i then 1 else if m = 0 then A.cnt 0 else A.cnt m + (hit l m : Int) + (hit r m : Int)
  unfold hit
  by_cases e : m = i
  · subst e
    rw [if_pos rfl, if_pos rfl, if_neg (fun h => hl h.2.symm), if_neg (fun h => hr h.2.symm)]; rfl
  · rw [if_neg e, if_neg e]
    by_cases e0 : m = 0
    · subst e0
      rw [if_pos rfl, if_neg (fun h => h.1 h.2.symm), if_neg (fun h => h.1 h.2.symm)]; omega
    · rw [if_neg e0]
      have k1 : (if l ≠ 0 ∧ m = l then (1 : Int) else 0) = ((if l = m then 1 else 0 : Nat) : Int) := by
        by_cases e1 : l = m
        · subst e1; simp [e0]
        · simp [e1]; exact fun _ h => e1 h.symm
      have k2 : (if r ≠ 0 ∧ m = r then (1 : Int) else 0) = ((if r = m then 1 else 0 : Nat) : Int) := by
        by_cases e1 : r = m
        · subst e1; simp [e0]
        · simp [e1]; exact fun _ h => e1 h.symm
      rw [k1, k2]
theorem cnt_le {A : Ar} {held : Nat → Nat} (h : A.Inv [] held) (hm : ∀ j, held j ≤ 1048576) {i : Nat} (hi : A.σ.on i = true) : 1 ≤ A.cnt i ∧ A.cnt i ≤ 1179648 := by
  have h1 := h.cnt i hi
  have h2 := refs_le A i
  have h3 := hm i
  have h4 := h.ok.cap2
  have h5 := h.pos i hi
  simp at h1
  omega
theorem sets9 (w : World) (g o : Nat) (v0 v1 v2 v3 v4 v5 v6 v7 v8 : Value) : ((((((((w.setCell ⟨g, o, none⟩ v0).setCell ⟨g, o + 1, none⟩ v1).setCell ⟨g, o + 2, none⟩ v2).setCell ⟨g, o + 3, none⟩ v3).setCell ⟨g, o + 4, none⟩ v4).setCell ⟨g, o + 5, none⟩ v5).setCell ⟨g, o + 6, none⟩ v6).setCell ⟨g, o + 7, none⟩ v7).setCell ⟨g, o + 8, none⟩ v8 = w.setCells g o [v0, v1, v2, v3, v4, v5, v6, v7, v8] := rfl
section
variable {I : Impl} {w w' : World} {ab : Nat} {sp : Addr} {A A' : Ar} {rd : Int} {ca : Option Addr} {cc g : Nat} {Fs Fs' : Nat → Prop}
def ARef (I : Impl) (w : World) (ab : Nat) (sp : Addr) (A : Ar) (rd : Int) (g cc : Nat) (Fs : Nat → Prop) (e : Ending) (w' : World) : Prop :=
  (∃ v, e = .returned v) ∧ LieA I w' ab sp A rd (some ⟨g, 0, none⟩) cc Fs ∧ Alters (FootA ab (some ⟨g, 0, none⟩) Fs) (FootA ab (some ⟨g, 0, none⟩) Fs) w w'
theorem a_addRefI (h : LieA I w ab sp A rd (some ⟨g, 0, none⟩) cc Fs) (i : Nat) (hi : A.Idx i) (hc : A.σ.on i = true → A.cnt i < 4611686018427387904) :
    Calls Tryz.prog 66 #[.pointer (some ⟨ab, 0, none⟩), .int .u32 (i : Int)] w (ARef I w ab sp (A.ret i) rd g cc Fs) := by
  by_cases h0 : i = 0
  · subst h0
    have ho : A.σ.on 0 = false := by
      cases hq : A.σ.on 0 with
      | false => rfl
      | true => have := h.ok.on 0 hq; omega
    refine (a_addRef_off h 0 (by omega) ho).mono fun e w1 ⟨h1, hb⟩ => ⟨h1, ?_, .of_below hb⟩
    unfold Ar.ret
    rw [if_pos rfl]
    exact h.below hb
  · have hon : A.σ.on i = true := by rcases hi with e | e; exact absurd e h0; exact e
    have hle := h.ok.on i hon
    obtain ⟨j, rfl⟩ : ∃ j, i = j + 1 := ⟨i - 1, by omega⟩
    refine (a_addRef h j hon (hc hon)).mono fun e w1 ⟨h1, h2, h3⟩ => ⟨h1, ?_, h3⟩
    unfold Ar.ret
    rw [if_neg h0]
    exact h2
def AMake (I : Impl) (w : World) (ab : Nat) (sp : Addr) (A : Ar) (rd : Int) (g cc : Nat) (Fs : Nat → Prop) (key val : Int) (l r : Nat) (e : Ending) (w' : World) : Prop :=
  ∃ Fs', Alters (FootA ab (some ⟨g, 0, none⟩) Fs) (FootA ab (some ⟨g, 0, none⟩) Fs') w w' ∧
    (¬ (A.Idx l ∧ A.Idx r ∧ (A.node key val l r).size ≤ 2147483647) → e = .returned (.tuple #[.int .u32 0, .int .i64 1]) ∧ LieA I w' ab sp A rd (some ⟨g, 0, none⟩) cc Fs') ∧
    (A.Idx l ∧ A.Idx r ∧ (A.node key val l r).size ≤ 2147483647 → A.σ.free = [] → e = .returned (.tuple #[.int .u32 0, .int .i64 2]) ∧ LieA I w' ab sp A rd (some ⟨g, 0, none⟩) cc Fs') ∧
    (A.Idx l ∧ A.Idx r ∧ (A.node key val l r).size ≤ 2147483647 → ∀ i t, A.σ.free = i :: t → e = .returned (.tuple #[.int .u32 (i : Int), .int .i64 0]) ∧ LieA I w' ab sp (A.made i t (A.node key val l r)) rd (some ⟨g, 0, none⟩) cc Fs')
set_option maxHeartbeats 4000000 in
set_option maxRecDepth 100000 in
theorem a_make (h : LieA I w ab sp A rd (some ⟨g, 0, none⟩) cc Fs) (ha : A.Agg) (key val : Int) (l r : Nat) (hl : l < 4294967296) (hr : r < 4294967296) (hv1 : -9223372036854775808 ≤ val) (hv2 : val ≤ 9223372036854775807) (hcnt : ∀ i, A.σ.on i = true → 1 ≤ A.cnt i ∧ A.cnt i ≤ 1179648) :
    Calls Tryz.prog 65 #[.pointer (some ⟨ab, 0, none⟩), .int .i64 key, .int .i64 val, .int .u32 (l : Int), .int .u32 (r : Int)] w (AMake I w ab sp A rd g cc Fs key val l r) := by
  have HASM := Lib.hid (a_assemble h ha key val l r hl hr hv1 hv2)
  have HH := Lib.hid h
  have HCNT := Lib.hid hcnt
  clear h ha hcnt
  go_enter Tryz.func65, Tryz.ntmps65
  go_wp2_with fail
  refine HASM.out.mono ?_
  rintro e w1 ⟨hor, hb1⟩
  have HB1 := Lib.hid hb1
  have H1 := Lib.hid (HH.out.below hb1)
  clear HASM hb1
  rcases hor with ⟨hok, rfl⟩ | ⟨hno, rfl⟩
  · have HOK := Lib.hid hok
    clear hok
    have hal2 := below_al w1 (Obj.cells (nodA (A.node key val l r)) 81)
    have hx2 := heap_alloc_new w1 (Obj.cells (nodA (A.node key val l r)) 81)
    have H2 := Lib.hid (H1.out.below hal2)
    have HB2 := Lib.hid (trans_of' HB1.out hal2)
    have HX2 := Lib.hid hx2
    have HF1 : Hid (∀ k, Fs k → k < w1.heap.size) := I.dom H1.out.slots
    have HG1 : Hid (g < w1.heap.size) := H1.out.raw.glt
    clear hal2 hx2
    unfold nodA
    go_upto_region 4 with fail
    unfold nodA at HX2 H2 HB2
    generalize w1.alloc _ = w2 at HX2 H2 HB2 ⊢
    obtain ⟨p, hp⟩ : ∃ p, w1.heap.size = p := ⟨_, rfl⟩
    rw [hp] at HX2 HF1 HG1 ⊢
    clear hp
    obtain ⟨c0, c1, c2⟩ := H2.out.cells
    go_wp2_with fail
    refine (I.alloc _ _ _ _ H2.out.slots).mono ?_
    rintro e w3 ⟨Fs', ha3, hfull, htake⟩
    have HX3 := Lib.hid ((ha3.block p (Array.getElem?_eq_some_iff.1 HX2.out).1 (fun hf => by have := HF1.out p hf; omega)).trans HX2.out)
    clear c0 c1 c2
    rcases (show A.σ.free = [] ∨ ∃ i t, A.σ.free = i :: t by cases A.σ.free with | nil => exact .inl rfl | cons i t => exact .inr ⟨i, t, rfl⟩) with hf | ⟨i, t, hf⟩
    · obtain ⟨rfl, h3⟩ := hfull hf
      obtain ⟨h4, ha4⟩ := H2.out.raw.step ha3 h3 rfl
      have H4 := Lib.hid (h4.lie rfl rfl H2.out.off H2.out.fit)
      have HA4 := Lib.hid ((Alters.of_below HB2.out).trans ha4)
      have HF := Lib.hid hf
      clear hfull htake ha3 h3 h4 ha4 hf
      go_wp2_with fail
      go_ret2
      exact ⟨Fs', HA4.out, fun h => absurd HOK.out h, fun _ _ => ⟨rfl, H4.out⟩, fun _ i t h => by rw [HF.out] at h; cases h⟩
    · obtain ⟨rfl, h3⟩ := htake i t hf
      have him := (H2.out.ok.free i).1 (by rw [hf]; simp)
      have hcap := H2.out.ok.cap2
      obtain ⟨j, rfl⟩ : ∃ j, i = j + 1 := ⟨i - 1, by omega⟩
      obtain ⟨h4, ha4⟩ := H2.out.raw.step ha3 h3 rfl
      have H4 := Lib.hid h4
      have HA4 := Lib.hid ((Alters.of_below HB2.out).trans ha4)
      have HF := Lib.hid hf
      have HIM := Lib.hid him
      have hji : (j : Int) < (A.σ.cap : Int) := by omega
      have hj0 : (0 : Int) ≤ (j : Int) := by omega
      have hj4 : (j : Int) + 1 < 4294967296 := by omega
      have hjc : j < A.σ.cap := by omega
      have hce : (A.σ.take (j + 1) t).cap = A.σ.cap := rfl
      obtain ⟨c0, c1, c2⟩ := h4.cells
      rw [hce] at c1
      obtain ⟨x0, x1, x2, x3, x4, x5, x6, x7⟩ := row8v (x := A.node key val l r) HX3.out
      have hn1 : ¬ g = p := by have := HG1.out; omega
      have hn2 : ¬ p = g := by have := HG1.out; omega
      have hcel : ∀ k, k < 9 → ∃ v, w3.cell? ⟨g, j * 9 + k, none⟩ = some v := fun k hk => by
        rw [h4.cels.cellAt (j * 9 + k) (by rw [hce]; omega), List.getElem?_eq_getElem (by rw [cels_len]; omega)]
        exact ⟨_, rfl⟩
      obtain ⟨u0, k0⟩ := hcel 0 (by decide)
      obtain ⟨u1, k1⟩ := hcel 1 (by decide)
      obtain ⟨u2, k2⟩ := hcel 2 (by decide)
      obtain ⟨u3, k3⟩ := hcel 3 (by decide)
      obtain ⟨u4, k4⟩ := hcel 4 (by decide)
      obtain ⟨u5, k5⟩ := hcel 5 (by decide)
      obtain ⟨u6, k6⟩ := hcel 6 (by decide)
      obtain ⟨u7, k7⟩ := hcel 7 (by decide)
      obtain ⟨u8, k8⟩ := hcel 8 (by decide)
      rw [Nat.add_zero] at k0
      have f0 := h4.cels.frozenAt (j * 9)
      have f1 := h4.cels.frozenAt (j * 9 + 1)
      have f2 := h4.cels.frozenAt (j * 9 + 2)
      have f3 := h4.cels.frozenAt (j * 9 + 3)
      have f4 := h4.cels.frozenAt (j * 9 + 4)
      have f5 := h4.cels.frozenAt (j * 9 + 5)
      have f6 := h4.cels.frozenAt (j * 9 + 6)
      have f7 := h4.cels.frozenAt (j * 9 + 7)
      have f8 := h4.cels.frozenAt (j * 9 + 8)
      clear hfull htake ha3 h3 h4 ha4 hf him hcap hcel hce hjc
      go_upto_region 7 with fail
      go_region
      rw [sets9]
      have hne : ∀ y, A.Idx y → y ≠ j + 1 := fun y hy e => by
        rcases hy with hy | hy
        · omega
        · rw [e, HIM.out.2.2] at hy; cases hy
      obtain ⟨h5, ha5⟩ := RawA.sets (ndV (A.node key val l r) ++ [.int .i64 1]) (j * 9) H4.out
      have hcv : celV (A.took (j + 1) t (A.node key val l r)) (j + 1) = ndV (A.node key val l r) ++ [.int .i64 1] := by
        unfold celV Ar.took
        show ndV (if j + 1 = j + 1 then _ else _) ++ [Value.int IntKind.i64 (if j + 1 = j + 1 then _ else _)] = _
        rw [if_pos rfl, if_pos rfl]
      have h6 := h5.lie (A := A.took (j + 1) t (A.node key val l r)) rfl (by
        rw [← hcv]
        exact cels_patch A _ rfl (by have := HIM.out; omega) (fun i hi => if_neg hi) (fun i hi => if_neg hi)) (fun i hi => by
          have hi' : (A.σ.take (j + 1) t).on i = false := hi
          have hne2 : i ≠ j + 1 := fun e => by rw [e, take_same] at hi'; cases hi'
          rw [take_other _ _ hne2] at hi'
          show (if i = j + 1 then (1 : Int) else A.cnt i) = 0 ∧ (if i = j + 1 then _ else A.nd i) = _
          rw [if_neg hne2, if_neg hne2]
          exact H2.out.off i hi') (fun i => by
          show 0 ≤ (if i = j + 1 then (1 : Int) else A.cnt i) ∧ (if i = j + 1 then (1 : Int) else A.cnt i) ≤ 9223372036854775807
          split
          · exact ⟨by decide, by decide⟩
          · exact H2.out.fit i)
      have hbd : Below (w3.setCells g (j * 9) (ndV (A.node key val l r) ++ [.int .i64 1])).heap.size (w3.setCells g (j * 9) (ndV (A.node key val l r) ++ [.int .i64 1])) (w3.setCells g (j * 9) (ndV (A.node key val l r) ++ [.int .i64 1])).drew := (Below.refl _ _).drew
      have H7 := Lib.hid (h6.below hbd)
      have HA7 := Lib.hid (HA4.out.trans (ha5.trans (.of_below hbd)))
      have HNE := Lib.hid hne
      have hid1 : ∀ y, A.Idx y → (A.took (j + 1) t (A.node key val l r)).Idx y := fun y hy => by
        rcases hy with e | e
        · exact .inl e
        · exact .inr (by show (A.σ.take (j + 1) t).on y = true; rw [take_other _ _ (HNE.out y (.inr e))]; exact e)
      have hbn1 : ∀ y, (A.took (j + 1) t (A.node key val l r)).σ.on y = true → 1 ≤ (A.took (j + 1) t (A.node key val l r)).cnt y ∧ (A.took (j + 1) t (A.node key val l r)).cnt y ≤ 1179648 := fun y hy => by
        show 1 ≤ (if y = j + 1 then (1 : Int) else A.cnt y) ∧ (if y = j + 1 then (1 : Int) else A.cnt y) ≤ 1179648
        split
        · exact ⟨Int.le_refl 1, by decide⟩
        · exact HCNT.out y (take_is hy (by assumption))
      have HID1 := Lib.hid hid1
      have HBN1 := Lib.hid hbn1
      rw [show [Value.int .i64 (A.node key val l r).key, .int .i64 (A.node key val l r).val, .int .u32 ((A.node key val l r).left : Int), .int .u32 ((A.node key val l r).right : Int), .int .i64 (A.node key val l r).size, .int .i64 (A.node key val l r).sum, .int .i64 (A.node key val l r).mn, .int .i64 (A.node key val l r).mx, .int .i64 1] = ndV (A.node key val l r) ++ [.int .i64 1] from rfl]
      clear h5 ha5 hcv h6 hbd hne hid1 hbn1 c0 c1 c2 x0 x1 x2 x3 x4 x5 x6 x7 k0 k1 k2 k3 k4 k5 k6 k7 k8 f0 f1 f2 f3 f4 f5 f6 f7 f8
      generalize (w3.setCells g (j * 9) (ndV (A.node key val l r) ++ [.int .i64 1])).drew = w5 at H7 HA7 ⊢
      go_wp2_with fail
      refine (a_addRefI H7.out l (HID1.out l HOK.out.1) (fun h => by have := HBN1.out l h; omega)).mono ?_
      rintro e w6 ⟨⟨v6, rfl⟩, h8, ha8⟩
      have H8 := Lib.hid h8
      have HA8 := Lib.hid (HA7.out.trans ha8)
      clear h8 ha8
      have hbn2 : ∀ y, ((A.took (j + 1) t (A.node key val l r)).ret l).σ.on y = true → 1 ≤ ((A.took (j + 1) t (A.node key val l r)).ret l).cnt y ∧ ((A.took (j + 1) t (A.node key val l r)).ret l).cnt y ≤ 1179649 := fun y hy => by
        rw [ret_σ] at hy
        have := HBN1.out y hy
        rw [ret_cnt]
        split <;> omega
      have HBN2 := Lib.hid hbn2
      clear hbn2
      go_wp2_with fail
      refine (a_addRefI H8.out r (by
        rcases HID1.out r HOK.out.2.1 with e | e
        · exact .inl e
        · exact .inr (by rw [ret_σ]; exact e)) (fun h => by have := HBN2.out r h; omega)).mono ?_
      rintro e w7 ⟨⟨v7, rfl⟩, h9, ha9⟩
      rw [made_took A t key val (HNE.out l HOK.out.1) (HNE.out r HOK.out.2.1) (by omega)] at h9
      have H9 := Lib.hid h9
      have HA9 := Lib.hid (HA8.out.trans ha9)
      clear h9 ha9
      go_wp2_with fail
      go_ret2
      refine ⟨Fs', HA9.out, fun h => absurd HOK.out h, fun _ h => (by rw [HF.out] at h; cases h), fun _ i' t' h => ?_⟩
      rw [HF.out] at h
      simp only [List.cons.injEq] at h
      obtain ⟨rfl, rfl⟩ := h
      exact ⟨rfl, H9.out⟩
  · have HNO := Lib.hid hno
    clear hno
    have hal2 := below_al w1 (Obj.cells (nodA Nd.zero) 81)
    have H2 := Lib.hid (H1.out.below hal2)
    have HB2 := Lib.hid (trans_of' HB1.out hal2)
    clear hal2
    unfold nodA
    go_wp2_with fail
    unfold nodA at H2 HB2
    go_ret2
    exact ⟨Fs, .of_below HB2.out, fun _ => ⟨rfl, H2.out⟩, fun h => absurd h HNO.out, fun h => absurd h HNO.out⟩
end
section
variable {I : Impl} {w w' : World} {ab : Nat} {sp : Addr} {A A' : Ar} {rd : Int} {ca : Option Addr} {cc g : Nat} {Fs Fs' : Nat → Prop}
def ARem (I : Impl) (w : World) (ab : Nat) (sp : Addr) (A : Ar) (rd : Int) (g cc : Nat) (Fs : Nat → Prop) (i : Nat) (e : Ending) (w' : World) : Prop :=
  ∃ Fs', Alters (FootA ab (some ⟨g, 0, none⟩) Fs) (FootA ab (some ⟨g, 0, none⟩) Fs') w w' ∧
    (A.σ.on i = false → e = .returned (.tuple #[.agg (nodA Nd.zero), .bool false]) ∧ LieA I w' ab sp A rd (some ⟨g, 0, none⟩) cc Fs') ∧
    (A.σ.on i = true → A.cnt i ≠ 1 → e = .returned (.tuple #[.agg (nodA Nd.zero), .bool false]) ∧ LieA I w' ab sp (A.dec i) rd (some ⟨g, 0, none⟩) cc Fs') ∧
    (A.σ.on i = true → A.cnt i = 1 → e = .returned (.tuple #[.agg (nodA (A.nd i)), .bool true]) ∧ LieA I w' ab sp (A.drop i) rd (some ⟨g, 0, none⟩) cc Fs')
set_option maxHeartbeats 4000000 in
set_option maxRecDepth 100000 in
theorem a_remove (h : LieA I w ab sp A rd (some ⟨g, 0, none⟩) cc Fs) (i : Nat) (hi : i < 4294967296) (hp1 : A.σ.on i = true → 1 ≤ A.cnt i) :
    Calls Tryz.prog 50 #[.pointer (some ⟨ab, 0, none⟩), .int .u32 (i : Int)] w (ARem I w ab sp A rd g cc Fs i) := by
  have HU : Hid _ := Lib.hid Tryz.underlying81
  have HIN := Lib.hid nodInfo
  have hb1 := below_al w (Obj.cells (nodA Nd.zero) 81)
  have HP := Lib.hid (heap_alloc_new w (Obj.cells (nodA Nd.zero) 81))
  have HB1 := Lib.hid hb1
  have HOK := Lib.hid h.ok
  have HOFF := Lib.hid h.off
  have HFIT := Lib.hid h.fit
  have HDOM : Hid (∀ k, FootA ab (some ⟨g, 0, none⟩) Fs k → k < w.heap.size) := h.dom
  have H2 := Lib.hid (h.below hb1)
  have HPOS := Lib.hid hp1
  clear h hb1 hp1
  go_enter Tryz.func50, Tryz.ntmps50
  go_upto_region 1 with fail
  rw [show #[Value.int .i64 0, .int .i64 0, .int .u32 0, .int .u32 0, .int .i64 0, .int .i64 0, .int .i64 0, .int .i64 0] = nodA Nd.zero from rfl]
  generalize w.alloc (Obj.cells (nodA Nd.zero) 81) = w1 at HP HB1 H2 ⊢
  obtain ⟨p, hp⟩ : ∃ p, w.heap.size = p := ⟨_, rfl⟩
  rw [hp] at HP HDOM ⊢
  have HPP := Lib.hid hp
  clear hp
  by_cases ho : A.σ.on i = true
  · have hle := HOK.out.on i ho
    have hcap := HOK.out.cap2
    have hpos := HPOS.out ho
    obtain ⟨j, rfl⟩ : ∃ j, i = j + 1 := ⟨i - 1, by omega⟩
    have hj : j < A.σ.cap := by omega
    have HO := Lib.hid ho
    have HJ := Lib.hid hj
    have hj4 : (j : Int) + 1 < 4294967296 := by omega
    clear ho hle hj hi hcap
    go_wp2_with fail
    refine (a_cell_on H2.out j HO.out).mono ?_
    rintro e w2 ⟨rfl, q2, rfl⟩
    have hb2 : Below w1.heap.size w1 (w1.drewN q2) := below_drewN (Below.refl _ _) q2
    generalize w1.drewN q2 = w2 at hb2 ⊢
    have HP2 := Lib.hid (keep_blk HP.out hb2)
    have h3 := H2.out.below hb2
    have HBB := Lib.hid (trans_of' HB1.out hb2)
    clear hb2
    obtain ⟨_, _, _, _, _, _, _, _, c8⟩ := h3.nine HJ.out
    have f8 := h3.cels.frozenAt (j * 9 + 8)
    obtain ⟨C, hC⟩ : ∃ C, A.cnt (j + 1) = C := ⟨_, rfl⟩
    have hfit := HFIT.out (j + 1)
    rw [hC] at c8 hpos hfit
    obtain ⟨h4, ha4⟩ := h3.putC HO.out (C - 1) (by omega)
    have hP4 : (w2.setCell ⟨g, j * 9 + 8, none⟩ (.int .i64 (C - 1))).heap[p]? = some (Obj.cells (nodA Nd.zero) 81 (0, 0)) := (heap_setCell_other _ _ _ _ (show p ≠ g by have := HDOM.out g (.inr (.inl ⟨_, rfl, rfl⟩)); omega)).trans HP2.out
    have HC := Lib.hid hC
    have H4 := Lib.hid h4
    have HP4 := Lib.hid hP4
    have HA4 := Lib.hid ((Alters.of_below HBB.out).trans ha4)
    have hfit2 := hfit.2
    clear h3 h4 ha4 hP4 hC hfit
    go_upto_region 5 with fail
    have HPC := Lib.hid hpos
    clear c8 f8 hpos hfit2
    generalize w2.setCell ⟨g, j * 9 + 8, none⟩ (.int .i64 (C - 1)) = w3 at H4 HP4 HA4 ⊢
    obtain ⟨g0, g1, g2, g3, g4, g5, g6, g7, g8⟩ := H4.out.nine HJ.out
    rw [show (A.putC (j + 1) (C - 1)).cnt (j + 1) = C - 1 from if_pos rfl] at g8
    rw [show (A.putC (j + 1) (C - 1)).nd (j + 1) = A.nd (j + 1) from rfl] at g0 g1 g2 g3 g4 g5 g6 g7
    obtain ⟨D, hD⟩ : ∃ D, C - 1 = D := ⟨_, rfl⟩
    rw [hD] at g8 H4
    have HD := Lib.hid hD
    clear hD
    by_cases hc1 : C = 1
    · obtain rfl : D = 0 := by have := HD.out; omega
      have HC1 := Lib.hid hc1
      clear hc1
      have hal4 := below_al w3 (Obj.cells (nodA (A.nd (j + 1))) 81)
      have hx4 := heap_alloc_new w3 (Obj.cells (nodA (A.nd (j + 1))) 81)
      have H5 := Lib.hid (H4.out.below hal4)
      have HP5 := Lib.hid (keep_blk HP4.out hal4)
      have HA5 := Lib.hid (HA4.out.trans (.of_below hal4))
      have HX5 := Lib.hid hx4
      have HPL : Hid (p < w3.heap.size) := (Array.getElem?_eq_some_iff.1 HP4.out).1
      clear hal4 hx4
      go_upto_region 8 with fail
      rw [show #[Value.int .i64 (A.nd (j + 1)).key, .int .i64 (A.nd (j + 1)).val, .int .u32 ((A.nd (j + 1)).left : Int), .int .u32 ((A.nd (j + 1)).right : Int), .int .i64 (A.nd (j + 1)).size, .int .i64 (A.nd (j + 1)).sum, .int .i64 (A.nd (j + 1)).mn, .int .i64 (A.nd (j + 1)).mx] = nodA (A.nd (j + 1)) from rfl]
      clear g0 g1 g2 g3 g4 g5 g6 g7 g8
      generalize w3.alloc (Obj.cells (nodA (A.nd (j + 1))) 81) = w4 at H5 HP5 HA5 HX5 ⊢
      obtain ⟨p7, hp7⟩ : ∃ p7, w3.heap.size = p7 := ⟨_, rfl⟩
      rw [hp7] at HX5 HPL ⊢
      clear hp7
      obtain ⟨g0, g1, g2, g3, g4, g5, g6, g7, g8⟩ := H5.out.nine HJ.out
      have f0 := H5.out.cels.frozenAt (j * 9)
      have f1 := H5.out.cels.frozenAt (j * 9 + 1)
      have f2 := H5.out.cels.frozenAt (j * 9 + 2)
      have f3 := H5.out.cels.frozenAt (j * 9 + 3)
      have f4 := H5.out.cels.frozenAt (j * 9 + 4)
      have f5 := H5.out.cels.frozenAt (j * 9 + 5)
      have f6 := H5.out.cels.frozenAt (j * 9 + 6)
      have f7 := H5.out.cels.frozenAt (j * 9 + 7)
      have f8 := H5.out.cels.frozenAt (j * 9 + 8)
      obtain ⟨h6, ha6⟩ := RawA.sets [.int .i64 0, .int .i64 0, .int .u32 0, .int .u32 0, .int .i64 0, .int .i64 0, .int .i64 0, .int .i64 0, .int .i64 0] (j * 9) H5.out.raw
      have hcv : celV (A.drop (j + 1)) (j + 1) = [.int .i64 0, .int .i64 0, .int .u32 0, .int .u32 0, .int .i64 0, .int .i64 0, .int .i64 0, .int .i64 0, .int .i64 0] := by
        unfold celV Ar.drop
        show ndV (if j + 1 = j + 1 then _ else _) ++ [Value.int IntKind.i64 (if j + 1 = j + 1 then _ else _)] = _
        rw [if_pos rfl, if_pos rfl]
        rfl
      rw [← hcv, cels_patch (A.putC (j + 1) 0) (A.drop (j + 1)) rfl HJ.out (fun i hi => if_neg hi) (fun i hi => by show (if i = j + 1 then (0 : Int) else A.cnt i) = (if i = j + 1 then (0 : Int) else A.cnt i); rfl), hcv] at h6
      have hP6 := (ha6.block p (Array.getElem?_eq_some_iff.1 HP5.out).1 (fun hf => by have := HDOM.out p hf; omega)).trans HP5.out
      have hX6 := (ha6.block p7 (Array.getElem?_eq_some_iff.1 HX5.out).1 (fun hf => by have := HDOM.out p7 hf; have := HPL.out; omega)).trans HX5.out
      have H6 := Lib.hid h6
      have HA6 := Lib.hid (HA5.out.trans ha6)
      have HP6 := Lib.hid hP6
      have HX6 := Lib.hid hX6
      clear h6 ha6 hcv hP6 hX6
      go_upto_region 9 with fail
      rw [sets9]
      clear g0 g1 g2 g3 g4 g5 g6 g7 g8 f0 f1 f2 f3 f4 f5 f6 f7 f8
      generalize w4.setCells g (j * 9) _ = w5 at H6 HA6 HP6 HX6 ⊢
      obtain ⟨c0, c1, c2⟩ := H6.out.cells
      go_wp2_with fail
      refine (I.release _ _ _ (j + 1) _ H6.out.slots (by omega)).mono ?_
      rintro e w6 ⟨Fs', ha7, _, h7⟩
      obtain ⟨rfl, h8⟩ := h7 HO.out
      obtain ⟨h9, ha9⟩ := H6.out.step ha7 h8 rfl
      have hFp : ∀ k, Fs k → k < p := fun k hk => HDOM.out k (.inr (.inr hk))
      have hP7 := (ha7.block p (Array.getElem?_eq_some_iff.1 HP6.out).1 (fun hf => by have := hFp p hf; omega)).trans HP6.out
      have hX7 := (ha7.block p7 (Array.getElem?_eq_some_iff.1 HX6.out).1 (fun hf => by have := hFp p7 hf; have := HPL.out; omega)).trans HX6.out
      have HNF : Hid (¬ Fs' p) := fun hf => by
        rcases ha7.foot p hf with h1 | h1
        · have := hFp p h1; omega
        · have := (Array.getElem?_eq_some_iff.1 HP6.out).1; omega
      have h10 := h9.lie (A := A.drop (j + 1)) rfl rfl (fun i hi => by
        have hi' : (A.σ.put (j + 1)).on i = false := hi
        show (if i = j + 1 then (0 : Int) else A.cnt i) = 0 ∧ (if i = j + 1 then Nd.zero else A.nd i) = Nd.zero
        by_cases e : i = j + 1
        · rw [if_pos e, if_pos e]; exact ⟨rfl, rfl⟩
        · rw [if_neg e, if_neg e]
          rw [put_other _ e] at hi'
          exact HOFF.out i hi') (fun i => by
        show 0 ≤ (if i = j + 1 then (0 : Int) else A.cnt i) ∧ (if i = j + 1 then (0 : Int) else A.cnt i) ≤ 9223372036854775807
        split
        · exact ⟨by decide, by decide⟩
        · exact HFIT.out i)
      have H10 := Lib.hid h10
      have HA10 := Lib.hid (HA6.out.trans ha9)
      have HP7 := Lib.hid hP7
      have HX7 := Lib.hid hX7
      clear c0 c1 c2 ha7 h7 h8 h9 ha9 hFp hP7 hX7 h10
      obtain ⟨z0, z1, z2, z3, z4, z5, z6, z7⟩ := row8v HX7.out
      go_wp2_with (refine wpList_store_row rfl 81 (.tmp 4) (.tmp 40) rfl p (nodA (A.nd (j + 1))) rfl rfl 81 _ HP7.out HIN.out rfl (nod_ones _) ?_)
      refine bodyPost_ret (results_row_tmp rfl _ _ p 81 (nodA (A.nd (j + 1))) (0, 0) _ rfl (setRow_heap _ _ _ _ _ _ HP7.out) HU.out rfl HIN.out) rfl ?_
      have hpp := HPP.out
      refine ⟨Fs', alt_row HA10.out (by omega), fun h => (by rw [HO.out] at h; cases h), fun _ h => absurd (HC.out.trans HC1.out) h, fun _ _ => ⟨rfl, ?_⟩⟩
      refine H10.out.keep fun k hk => setRow_other _ _ _ _ fun e => ?_
      subst e
      rcases hk with hk | hk | hk
      · have := HDOM.out k (.inl hk); omega
      · have := HDOM.out k (.inr (.inl hk)); omega
      · exact HNF.out hk
    · have hgt : (0 : Int) < D := by have := HD.out; have := HPC.out; omega
      have HC1 := Lib.hid hc1
      clear hc1
      go_wp2_with (refine wpList_store_row rfl 81 (.tmp 4) (.tmp 26) rfl p (nodA Nd.zero) rfl rfl 81 _ HP4.out HIN.out rfl (nod_ones _) ?_)
      refine bodyPost_ret (results_row_tmp rfl _ _ p 81 (nodA Nd.zero) (0, 0) _ rfl (setRow_heap _ _ _ _ _ _ HP4.out) HU.out rfl HIN.out) rfl ?_
      have hpp := HPP.out
      refine ⟨Fs, alt_row HA4.out (by omega), fun h => (by rw [HO.out] at h; cases h), fun _ _ => ⟨rfl, ?_⟩, fun _ h => absurd (HC.out.symm.trans h) HC1.out⟩
      have e : A.dec (j + 1) = A.putC (j + 1) D := by unfold Ar.dec Ar.putC; rw [HC.out, HD.out]
      rw [e]
      exact H4.out.keep fun k hk => setRow_other _ _ _ _ (by have := HDOM.out k hk; omega)
  · have ho' : A.σ.on i = false := by simpa using ho
    have HO := Lib.hid ho'
    clear ho ho'
    go_wp2_with fail
    refine (a_cell_off H2.out i hi HO.out).mono ?_
    rintro e w2 ⟨rfl, q2, rfl⟩
    have hb2 : Below w1.heap.size w1 (w1.drewN q2) := below_drewN (Below.refl _ _) q2
    generalize w1.drewN q2 = w2 at hb2 ⊢
    have HP2 := Lib.hid (keep_blk HP.out hb2)
    have H3 := Lib.hid (H2.out.below hb2)
    have HBB := Lib.hid (trans_of' HB1.out hb2)
    clear hb2
    go_wp2_with (refine wpList_store_row rfl 81 (.tmp 4) (.tmp 13) rfl p (nodA Nd.zero) rfl rfl 81 _ HP2.out HIN.out rfl (nod_ones _) ?_)
    refine bodyPost_ret (results_row_tmp rfl _ _ p 81 (nodA Nd.zero) (0, 0) _ rfl (setRow_heap _ _ _ _ _ _ HP2.out) HU.out rfl HIN.out) rfl ?_
    have hpp := HPP.out
    exact ⟨Fs, alt_row (Alters.of_below HBB.out) (by omega), fun _ => ⟨rfl, H3.out.keep fun k hk => setRow_other _ _ _ _ (by have := HDOM.out k hk; omega)⟩, fun h => (by rw [HO.out] at h; cases h), fun h => (by rw [HO.out] at h; cases h)⟩
end
/-- a slot's description -/
structure Sl where
  on : Bool
  cnt : Int
  gen : Int
  nd : Nd
def slV (s : Sl) : List Value := [.bool s.on, .int .i64 s.cnt, .int .u32 s.gen, .int .i64 s.nd.key, .int .i64 s.nd.val, .int .u32 (s.nd.left : Int), .int .u32 (s.nd.right : Int), .int .i64 s.nd.size, .int .i64 s.nd.sum, .int .i64 s.nd.mn, .int .i64 s.nd.mx]
/-- slot i + 1 of the n slots reads as S i -/
structure SlotsAt (w : World) (a : Option Addr) (n : Nat) (S : Nat → Sl) : Prop where
  cell : ∀ i, i < n → ∃ b off, a = some ⟨b, off, none⟩ ∧ b < w.heap.size ∧ ∀ j v, (slV (S i))[j]? = some v → w.cell? ⟨b, off + i * 11 + j, none⟩ = some v
  kid : ∀ i, i < n → (S i).nd.left < 4294967296 ∧ (S i).nd.right < 4294967296
theorem SlotsAt.below {w w' : World} {a : Option Addr} {n : Nat} {S : Nat → Sl} (h : SlotsAt w a n S) (hb : Below w.heap.size w w') : SlotsAt w' a n S := by
  refine ⟨fun i hi => ?_, h.kid⟩
  obtain ⟨b, off, ha, hlt, hc⟩ := h.cell i hi
  exact ⟨b, off, ha, Nat.lt_of_lt_of_le hlt hb.size, fun j v hv => by rw [← hc j v hv]; exact hb.cell (p := ⟨b, off + i * 11 + j, none⟩) hlt⟩
theorem kids_any (o : Bool) (c g k v s u x y : Int) (l r : Int) (w : World) :
    Calls Tryz.prog 113 #[.agg #[.bool o, .int .i64 c, .int .u32 g, .int .i64 k, .int .i64 v, .int .u32 l, .int .u32 r, .int .i64 s, .int .i64 u, .int .i64 x, .int .i64 y]] w
      (Calm w (.agg #[.int .u32 l, .int .u32 r])) := by
  have HU : Hid _ := Lib.hid Tryz.underlying50
  have hin : (Tryz.prog.info? 50).map (·.size) = some 2 := by kernel_rfl
  have HI := Lib.hid hin
  clear hin
  go_enter Tryz.func113, Tryz.ntmps113
  go_wp2
  exact bodyPost_ret (v := .agg #[.int .u32 l, .int .u32 r]) (results_cell_row rfl _ _ (w.heap.size + 1) 50 _ (0, 0) _ rfl (heap_alloc2_new w _ _) HU.out rfl HI.out) rfl ⟨rfl, ((Below.refl _ _).alloc (Nat.le_refl _) _).alloc (by simp) _⟩
set_option maxHeartbeats 1000000 in
set_option maxRecDepth 100000 in
theorem dallocated_any {w : World} {a b : Option Addr} {n c m d i : Nat} {S : Nat → Sl} (h : SlotsAt w a n S) (hn : n ≤ 65536) (hi : i < 4294967296) :
    Calls Tryz.prog 105 #[.agg #[.slice a n c, .slice b m d], .int .u32 (i : Int)] w (Calm w (.bool (decide (1 ≤ i ∧ i ≤ n ∧ (S (i - 1)).on = true)))) := by
  have hb1 : Below w.heap.size w (w.alloc (Obj.cells #[Value.slice a n c, Value.slice b m d] 33)) := (Below.refl _ _).alloc (Nat.le_refl _) _
  have HB := Lib.hid hb1
  clear hb1
  have hni : (n : Int) ≤ 65536 := by omega
  by_cases h0 : 1 ≤ i ∧ i ≤ n
  · obtain ⟨j, rfl⟩ : ∃ j, i = j + 1 := ⟨i - 1, by omega⟩
    obtain ⟨b', off, rfl, hlt, hc⟩ := h.cell j (by omega)
    have hc0 : w.cell? ⟨b', off + j * 11, none⟩ = _ := hc 0 _ rfl
    have hjn : (j : Int) < (n : Int) := by omega
    have hjn2 : (j : Int) + 1 ≤ (n : Int) := by omega
    have hj1 : (1 : Int) ≤ (j : Int) + 1 := by omega
    rw [show decide (1 ≤ j + 1 ∧ j + 1 ≤ n ∧ (S (j + 1 - 1)).on = true) = (S j).on by
      have : 1 ≤ j + 1 ∧ j + 1 ≤ n := h0
      simp [this]]
    generalize (S j).on = o at *
    clear h hc h0 hi
    go_enter Tryz.func105, Tryz.ntmps105
    go_wp2
    go_ret
    exact ⟨rfl, HB.out⟩
  · rw [show decide (1 ≤ i ∧ i ≤ n ∧ (S (i - 1)).on = true) = false by simp; omega]
    by_cases h1 : i = 0
    · subst h1
      clear h h0
      go_enter Tryz.func105, Tryz.ntmps105
      go_wp2
      go_ret
      exact ⟨rfl, HB.out⟩
    · have hin : ¬ (i : Int) ≤ (n : Int) := by omega
      have hi1 : (1 : Int) ≤ (i : Int) := by omega
      clear h h0
      go_enter Tryz.func105, Tryz.ntmps105
      go_wp2
      go_ret
      exact ⟨rfl, HB.out⟩
theorem i64sInfo : (Tryz.prog.info? 3).map (fun i => (i.zero, i.size, i.bytes)) = some (some (.int .i64 0), 1, 8) := by kernel_rfl
/-- a row of numbers -/
def natR (n : Nat) (f : Nat → Nat) : List Value := (List.range n).map fun i => .int .i64 ((f i : Nat) : Int)
theorem natR_at {n i : Nat} (f : Nat → Nat) (h : i < n) : (natR n f)[i]? = some (.int .i64 ((f i : Nat) : Int)) := by simp [natR, h]
theorem natR_zero (n : Nat) : (madeCells (Value.int .i64 0).cells (n * 1)).toList = natR n fun _ => 0 := by
  rw [Nat.mul_one]
  refine (toList_madeCells_one (.int .i64 0) n).trans ?_
  unfold natR
  simp [List.map_const']
theorem natR_set {n i : Nat} (f : Nat → Nat) (x : Int) (v : Nat) (hx : x = (v : Int)) : (natR n f).set i (.int .i64 x) = natR n fun j => if j = i then v else f j := by
  subst hx
  apply List.ext_getElem?
  intro j
  unfold natR
  rw [List.getElem?_set]
  by_cases hj : j < n
  · by_cases e : i = j
    · subst e; simp [hj]
    · have e2 : ¬ j = i := fun h => e h.symm
      simp [hj, e, e2]
  · by_cases e : i = j
    · subst e; simp [hj]
    · simp [hj, e]
/-- a slice of slot numbers reads as l -/
structure U32At (w : World) (a : Option Addr) (l : List Nat) : Prop where
  cell : ∀ j, j < l.length → ∃ b off, a = some ⟨b, off, none⟩ ∧ b < w.heap.size ∧ w.cell? ⟨b, off + j, none⟩ = some (.int .u32 ((l.getD j 0 : Nat) : Int))
  lt : ∀ x ∈ l, x < 4294967296
theorem U32At.below {w w' : World} {a : Option Addr} {l : List Nat} (h : U32At w a l) (hb : Below w.heap.size w w') : U32At w' a l := by
  refine ⟨fun j hj => ?_, h.lt⟩
  obtain ⟨b, off, ha, hlt, hc⟩ := h.cell j hj
  exact ⟨b, off, ha, Nat.lt_of_lt_of_le hlt hb.size, by rw [← hc]; exact hb.cell (p := ⟨b, off + j, none⟩) hlt⟩
theorem getD_mem {l : List Nat} {k : Nat} (h : k < l.length) : l.getD k 0 ∈ l := by
  rw [List.getD_eq_getElem?_getD, List.getElem?_eq_getElem h]; exact List.getElem_mem _
theorem count_step {l : List Nat} {k : Nat} (h : k < l.length) (x : Nat) : (l.take (k + 1)).count x = (l.take k).count x + if l.getD k 0 = x then 1 else 0 := by
  rw [List.take_succ_eq_append_getElem h, List.count_append, List.getD_eq_getElem?_getD, List.getElem?_eq_getElem h]
  by_cases e : l[k] = x
  · simp [e]
  · simp [e]
def MadeRow (w : World) (n : Nat) (f : Nat → Nat) (e : Ending) (w' : World) : Prop :=
  ∃ g, e = .returned (.slice (some ⟨g, 0, none⟩) n n) ∧ w'.ownsRow w.heap.size 3 1 (.slice (some ⟨g, 0, none⟩) n n) n (natR n f) ∧ Below w.heap.size w w'
set_option maxHeartbeats 1000000 in
set_option maxRecDepth 100000 in
theorem counts_any {w : World} {a : Option Addr} {c n : Nat} (l : List Nat) (h : U32At w a l) (hn : n ≤ 65536) (hl : l.length ≤ 1000000) :
    Calls Tryz.prog 112 #[.slice a l.length c, .int .i64 (n : Int)] w (MadeRow w n fun i => l.count (i + 1)) := by
  obtain ⟨i0, hi, hz0, hz1, hz2⟩ := info_parts i64sInfo
  have hni : (n : Int) ≤ 65536 := by omega
  have hni0 : (0 : Int) ≤ (n : Int) := by omega
  have HH := Lib.hid h
  obtain ⟨L, hL⟩ : ∃ L, l.length = L := ⟨_, rfl⟩
  have HL := Lib.hid hL
  rw [hL] at hl ⊢
  have hLi : (L : Int) ≤ 1000000 := by omega
  clear h hL
  go_enter Tryz.func112, Tryz.ntmps112
  go_wp2_with (refine wpList_make_full _ rfl (.tmp 7) (.tmp 7) 158 rfl w.heap.size 3 i0 (.int .i64 0) 1 Tryz.underlying158 hi hz0 hz1 .i64 .i64 (n : Int) (n : Int) n rfl rfl rfl rfl (by rw [hz2]; omega) (by unfold maxLen; omega) (Nat.le_refl _) ?_; intro w2 ho2 hg2)
  have hb2 : Below w.heap.size w w2 := (Below.refl _ _).grown hg2 (Nat.le_refl _) (fun k hk => by cases hk)
  rw [natR_zero] at ho2
  clear hg2
  go_loopw [6] (fun i wr => ∃ k : Nat, k ≤ L ∧ i = .int .i64 (k : Int) ∧ wr.ownsRow w.heap.size 3 1 (.slice (some ⟨w.heap.size, 0, none⟩) n n) n (natR n fun i => (l.take k).count (i + 1)) ∧ Below w.heap.size w wr) (fun i _ => L - (intOf i).toNat)
  case atStart => exact ⟨0, Nat.zero_le _, rfl, by simpa using ho2, hb2⟩
  case round =>
    clear ho2 hb2
    obtain ⟨k, hk, rfl, ho, hb⟩ := hrel
    have hs := hb.size
    by_cases hlt : k < L
    · have hkl : k < l.length := by rw [HL.out]; exact hlt
      have hki : (k : Int) < (L : Int) := by omega
      obtain ⟨b, off, rfl, hbl, hcell⟩ := (HH.out.below hb).cell k hkl
      have hx2 : l.getD k 0 < 4294967296 := HH.out.lt _ (getD_mem hkl)
      have hcs := fun x => count_step hkl x
      have HC := Lib.hid hcs
      clear hcs hkl
      generalize hX : l.getD k 0 = X at hcell hx2
      have HX := Lib.hid hX
      clear hX
      have hX4 : (X : Int) < 4294967296 := by omega
      have hkn : (0 : Int) ≤ (k : Int) := by omega
      by_cases hr : 1 ≤ X ∧ X ≤ n
      · obtain ⟨j, rfl⟩ : ∃ j, X = j + 1 := ⟨X - 1, by omega⟩
        have hjn : j < n := by omega
        have hji : (j : Int) < (n : Int) := by omega
        have hj1 : (1 : Int) ≤ (j : Int) + 1 := by omega
        have hjn2 : (j : Int) + 1 ≤ (n : Int) := by omega
        have hxw : ((j + 1 : Nat) : Int) = (j : Int) + 1 := by omega
        have hcj := (ho.cellAt j (by omega)).trans (natR_at _ hjn)
        have hfj := ho.frozenAt j
        have hct : (l.take k).count (j + 1) ≤ k := Nat.le_trans List.count_le_length (by simp; omega)
        have hst := (ho.stored j (.int .i64 (((l.take k).count (j + 1) : Nat) + 1 : Int))).1
        have hbs : Below w.heap.size w (wr.setCell ⟨w.heap.size, j, none⟩ (.int .i64 (((l.take k).count (j + 1) : Nat) + 1 : Int))) := hb.setCell (Nat.le_refl _) _
        have HS := Lib.hid hst
        have HB := Lib.hid hbs
        generalize hT : (l.take k).count (j + 1) = T at hcj hct HS HB
        have HT := Lib.hid hT
        have hTi : (T : Int) ≤ 1000000 := by omega
        have hTi0 : (0 : Int) ≤ (T : Int) := by omega
        clear hst hbs hb hT hr hct ho
        go_wp2
        refine ⟨⟨k + 1, by omega, by go_num, ?_, HB.out⟩, by simp [intOf]; omega⟩
        have h9 := HS.out
        rw [natR_set (i := j) _ _ (T + 1) (by omega)] at h9
        refine (congrArg (fun xs => World.ownsRow _ _ _ _ _ _ xs) (congrArg (natR n) (funext fun i => ?_))).mp h9
        rw [HC.out, HX.out]
        by_cases e : i = j
        · subst e; rw [if_pos rfl, if_pos rfl, HT.out]
        · rw [if_neg e, if_neg (by omega)]; rfl
      · have hsame : (natR n fun i => (l.take k).count (i + 1)) = natR n fun i => (l.take (k + 1)).count (i + 1) := by
          unfold natR
          refine List.map_congr_left fun i hi => ?_
          rw [List.mem_range] at hi
          show Value.int .i64 (((l.take k).count (i + 1) : Nat) : Int) = Value.int .i64 (((l.take (k + 1)).count (i + 1) : Nat) : Int)
          rw [HC.out, HX.out, if_neg (by omega)]
          rfl
        have HSM := Lib.hid hsame
        have HO := Lib.hid ho
        clear ho hsame
        by_cases h0 : X = 0
        · subst h0
          clear hr
          go_wp2
          exact ⟨⟨k + 1, by omega, by go_num, by rw [← HSM.out]; exact HO.out, hb⟩, by simp [intOf]; omega⟩
        · have h1 : (1 : Int) ≤ (X : Int) := by omega
          have h2 : ¬ (X : Int) ≤ (n : Int) := by omega
          clear hr h0
          go_wp2
          exact ⟨⟨k + 1, by omega, by go_num, by rw [← HSM.out]; exact HO.out, hb⟩, by simp [intOf]; omega⟩
    · obtain rfl : k = L := by omega
      rw [List.take_of_length_le (by rw [HL.out]; exact Nat.le_refl _)] at ho
      go_wp2
      go_ret
      exact ⟨_, rfl, ho, hb⟩
/-- child t (0 or 1) of a slot -/
def kd (s : Sl) (t : Nat) : Nat := if t = 0 then s.nd.left else s.nd.right
/-- the references to x from the first t children of a slot, if it is allocated -/
def ph (t : Nat) (s : Sl) (x : Nat) : Nat := if s.on = true then ((List.range t).map fun u => hit (kd s u) x).sum else 0
theorem ph_succ (t : Nat) (s : Sl) (x : Nat) : ph (t + 1) s x = ph t s x + if s.on = true ∧ kd s t = x then 1 else 0 := by
  unfold ph
  by_cases h : s.on = true
  · rw [if_pos h, if_pos h, List.range_succ, List.map_append, List.sum_append]
    simp [hit, h]
  · rw [if_neg h, if_neg h, if_neg (fun e => h e.1)]
theorem ph_zero (s : Sl) (x : Nat) : ph 0 s x = 0 := by unfold ph; simp
theorem ph_le (t : Nat) (s : Sl) (x : Nat) : ph t s x ≤ t := by
  induction t with
  | zero => rw [ph_zero]; exact Nat.le_refl _
  | succ t ih => rw [ph_succ]; split <;> omega
/-- the references to x from the first k slots -/
def eg (S : Nat → Sl) (k : Nat) (x : Nat) : Nat := ((List.range k).map fun m => ph 2 (S m) x).sum
theorem eg_succ (S : Nat → Sl) (k x : Nat) : eg S (k + 1) x = eg S k x + ph 2 (S k) x := by
  unfold eg
  rw [List.range_succ, List.map_append, List.sum_append]
  simp
theorem eg_le (S : Nat → Sl) (k x : Nat) : eg S k x ≤ 2 * k := by
  induction k with
  | zero => unfold eg; simp
  | succ k ih => rw [eg_succ]; have := ph_le 2 (S k) x; omega
/-- the box of a dump -/
structure DBox (w : World) (q : Nat) (a b : Option Addr) (n c m d : Nat) : Prop where
  box : w.heap[q]? = some (.cells #[.slice a n c, .slice b m d] 33 (0, 0))
theorem DBox.new (w : World) (a b : Option Addr) (n c m d : Nat) : DBox (w.alloc (Obj.cells #[.slice a n c, .slice b m d] 33)) w.heap.size a b n c m d := ⟨heap_alloc_new w _⟩
section
variable {w w' : World} {q : Nat} {a b : Option Addr} {n c m d : Nat}
theorem DBox.below {B : Nat} (h : DBox w q a b n c m d) (hb : Below B w w') (hq : q < B) : DBox w' q a b n c m d := ⟨(hb.block q hq).trans h.box⟩
theorem DBox.cells (h : DBox w q a b n c m d) : w.cell? ⟨q, 0, none⟩ = some (.slice a n c) ∧ w.cell? ⟨q, 1, none⟩ = some (.slice b m d) := by
  refine ⟨?_, ?_⟩ <;> (rw [cell_of_row _ _ _ _ _ _ h.box]; rfl)
end
/-- the eleven cells of a slot -/
theorem SlotsAt.all {w : World} {a : Option Addr} {n : Nat} {S : Nat → Sl} (h : SlotsAt w a n S) {i : Nat} (hi : i < n) : ∃ b off, a = some ⟨b, off, none⟩ ∧ b < w.heap.size ∧
    w.cell? ⟨b, off + i * 11, none⟩ = some (.bool (S i).on) ∧ w.cell? ⟨b, off + i * 11 + 1, none⟩ = some (.int .i64 (S i).cnt) ∧ w.cell? ⟨b, off + i * 11 + 2, none⟩ = some (.int .u32 (S i).gen) ∧
    w.cell? ⟨b, off + i * 11 + 3, none⟩ = some (.int .i64 (S i).nd.key) ∧ w.cell? ⟨b, off + i * 11 + 4, none⟩ = some (.int .i64 (S i).nd.val) ∧ w.cell? ⟨b, off + i * 11 + 5, none⟩ = some (.int .u32 ((S i).nd.left : Int)) ∧
    w.cell? ⟨b, off + i * 11 + 6, none⟩ = some (.int .u32 ((S i).nd.right : Int)) ∧ w.cell? ⟨b, off + i * 11 + 7, none⟩ = some (.int .i64 (S i).nd.size) ∧ w.cell? ⟨b, off + i * 11 + 8, none⟩ = some (.int .i64 (S i).nd.sum) ∧
    w.cell? ⟨b, off + i * 11 + 9, none⟩ = some (.int .i64 (S i).nd.mn) ∧ w.cell? ⟨b, off + i * 11 + 10, none⟩ = some (.int .i64 (S i).nd.mx) := by
  obtain ⟨b, off, ha, hlt, hc⟩ := h.cell i hi
  exact ⟨b, off, ha, hlt, hc 0 _ rfl, hc 1 _ rfl, hc 2 _ rfl, hc 3 _ rfl, hc 4 _ rfl, hc 5 _ rfl, hc 6 _ rfl, hc 7 _ rfl, hc 8 _ rfl, hc 9 _ rfl, hc 10 _ rfl⟩
theorem two_cells {w : World} {k : Nat} {x y : Value} {t : TypeId} (h : w.heap[k]? = some (.cells #[x, y] t (0, 0))) : w.cell? ⟨k, 0, none⟩ = some x ∧ w.cell? ⟨k, 1, none⟩ = some y := by
  refine ⟨?_, ?_⟩ <;> (rw [cell_of_row _ _ _ _ _ _ h]; rfl)
def EdgeRel (S : Nat → Sl) (n q : Nat) (w1 : World) (f : Nat → Nat) (wr : World) : Prop :=
  wr.ownsRow (q + 1) 3 1 (.slice (some ⟨q + 1, 0, none⟩) n n) n (natR n f) ∧ Below (q + 1) w1 wr
theorem EdgeRel.store {S : Nat → Sl} {n q : Nat} {w1 wr : World} {f g : Nat → Nat} (h : EdgeRel S n q w1 f wr) (j : Nat) (x : Int) (hx : x = ((g j : Nat) : Int)) (hs : q + 1 ≤ w1.heap.size) (hg : ∀ i, i < n → i ≠ j → g i = f i) :
    EdgeRel S n q w1 g (wr.setCell ⟨q + 1, j, none⟩ (.int .i64 x)) := by
  refine ⟨?_, h.2.setCell (Nat.le_refl _) _⟩
  have h1 := (h.1.stored j (.int .i64 x)).1
  rw [natR_set f x (g j) hx] at h1
  have e : natR n (fun i => if i = j then g j else f i) = natR n g := by
    unfold natR
    refine List.map_congr_left fun i hi => ?_
    rw [List.mem_range] at hi
    show Value.int .i64 (((if i = j then g j else f i : Nat)) : Int) = Value.int .i64 ((g i : Nat) : Int)
    by_cases e : i = j
    · rw [if_pos e, e]
    · rw [if_neg e, hg i hi e]
  rw [e] at h1
  exact h1
theorem EdgeRel.below {S : Nat → Sl} {n q : Nat} {w1 wr w' : World} {f : Nat → Nat} (h : EdgeRel S n q w1 f wr) (hb : Below wr.heap.size wr w') (hs : q + 1 ≤ w1.heap.size) : EdgeRel S n q w1 f w' :=
  ⟨row_below h.1 hb, h.2.trans (hb.mono (Nat.le_trans hs h.2.size))⟩
theorem kid_at {w : World} {kb t : Nat} {s : Sl} (h : w.heap[kb]? = some (.cells #[.int .u32 (s.nd.left : Int), .int .u32 (s.nd.right : Int)] 50 (0, 0))) (ht : t < 2) : w.cell? ⟨kb, t, none⟩ = some (.int .u32 ((kd s t : Nat) : Int)) := by
  obtain ⟨h0, h1⟩ := two_cells h
  rcases (show t = 0 ∨ t = 1 by omega) with rfl | rfl
  · exact h0
  · exact h1
theorem EdgeRel.same {S : Nat → Sl} {n q : Nat} {w1 wr : World} {f g : Nat → Nat} (h : EdgeRel S n q w1 f wr) (hg : ∀ i, i < n → g i = f i) : EdgeRel S n q w1 g wr := by
  refine ⟨?_, h.2⟩
  have e : natR n g = natR n f := by
    unfold natR
    refine List.map_congr_left fun i hi => ?_
    rw [List.mem_range] at hi
    show Value.int .i64 ((g i : Nat) : Int) = Value.int .i64 ((f i : Nat) : Int)
    rw [hg i hi]
  rw [e]
  exact h.1
set_option maxHeartbeats 2000000 in
set_option maxRecDepth 100000 in
theorem inEdges_any {w : World} {a b : Option Addr} {n c m d : Nat} {S : Nat → Sl} (h : SlotsAt w a n S) (hn : n ≤ 65536) :
    Calls Tryz.prog 110 #[.agg #[.slice a n c, .slice b m d]] w (MadeRow w n fun i => eg S n (i + 1)) := by
  obtain ⟨i0, hi, hz0, hz1, hz2⟩ := info_parts i64sInfo
  have hni : (n : Int) ≤ 65536 := by omega
  have hni0 : (0 : Int) ≤ (n : Int) := by omega
  have hb1 : Below w.heap.size w (w.alloc (Obj.cells #[Value.slice a n c, Value.slice b m d] 33)) := (Below.refl _ _).alloc (Nat.le_refl _) _
  have HB := Lib.hid hb1
  have HS := Lib.hid (h.below hb1)
  have HX := Lib.hid (DBox.new w a b n c m d)
  have hsz : (w.alloc (Obj.cells #[Value.slice a n c, Value.slice b m d] 33)).heap.size = w.heap.size + 1 := by simp
  have HZ := Lib.hid hsz
  obtain ⟨hc0, hc1⟩ := HX.out.cells
  clear hb1 h hsz
  go_enter Tryz.func110, Tryz.ntmps110
  go_upto_region 1 with fail
  generalize hW1 : w.alloc (Obj.cells #[Value.slice a n c, Value.slice b m d] 33) = w1 at *
  clear hW1
  generalize hQ : w.heap.size = q at *
  have HQ := Lib.hid hQ
  clear hQ
  go_wp2_with (refine wpList_make_full _ rfl (.tmp 9) (.tmp 9) 158 rfl (q + 1) 3 i0 (.int .i64 0) 1 Tryz.underlying158 hi hz0 hz1 .i64 .i64 (n : Int) (n : Int) n rfl rfl rfl rfl (by rw [hz2]; omega) (by unfold maxLen; omega) (Nat.le_of_eq HZ.out.symm) ?_; intro w2 ho2 hg2)
  rw [natR_zero, HZ.out] at ho2
  rw [HZ.out]
  have hb2 : Below (q + 1) w1 w2 := (Below.refl _ _).grown hg2 (Nat.le_of_eq HZ.out.symm) (fun k hk => by cases hk)
  have HE : Hid (EdgeRel S n q w1 (fun i => eg S 0 (i + 1)) w2) := ⟨by simpa [eg] using ho2, hb2⟩
  clear hg2 ho2 hb2 hc0 hc1
  go_loopw [4] (fun i wr => ∃ k : Nat, k ≤ n ∧ i = .int .i64 (k : Int) ∧ EdgeRel S n q w1 (fun i => eg S k (i + 1)) wr) (fun i _ => n - (intOf i).toNat)
  case atStart => exact ⟨0, Nat.zero_le _, rfl, HE.out⟩
  case round =>
    clear HE
    obtain ⟨k, hk, rfl, hE⟩ := hrel
    have hb := hE.2
    have hs := hb.size
    have hX := HX.out.below hb (by omega)
    obtain ⟨hc0, hc1⟩ := hX.cells
    by_cases hlt : k < n
    · have hki : (k : Int) < (n : Int) := by omega
      have hki0 : (0 : Int) ≤ (k : Int) := by omega
      have hS := HS.out.below (hb.mono (Nat.le_of_eq HZ.out))
      obtain ⟨b', off, rfl, hlb, d0, d1, d2, d3, d4, d5, d6, d7, d8, d9, d10⟩ := hS.all hlt
      obtain ⟨hl1, hl2⟩ := hS.kid k hlt
      have HE := Lib.hid hE
      have HSS := Lib.hid hS
      clear hS hE hX
      go_wp2_with fail
      refine (kids_any _ _ _ _ _ _ _ _ _ _ _ _).mono ?_
      rintro e w3 ⟨rfl, hb3⟩
      clear hc0 hc1 d0 d1 d2 d3 d4 d5 d6 d7 d8 d9 d10
      go_wp2
      have hE3 := HE.out.below hb3 (Nat.le_of_eq HZ.out.symm)
      have hal := (Below.refl w3.heap.size w3).alloc (Nat.le_refl _) (Obj.cells #[Value.int .u32 ((S k).nd.left : Int), .int .u32 ((S k).nd.right : Int)] 50)
      have hE4 := hE3.below hal (Nat.le_of_eq HZ.out.symm)
      have hkb : q + 1 < w3.heap.size := (row_lt hE3.1 (q + 1) rfl).2
      have hK := heap_alloc_new w3 (Obj.cells #[Value.int .u32 ((S k).nd.left : Int), .int .u32 ((S k).nd.right : Int)] 50)
      have HK : Hid (EdgeRel S n q w1 (fun i => eg S k (i + 1) + ph 0 (S k) (i + 1)) (w3.alloc (Obj.cells #[Value.int .u32 ((S k).nd.left : Int), .int .u32 ((S k).nd.right : Int)] 50)) ∧ (w3.alloc (Obj.cells #[Value.int .u32 ((S k).nd.left : Int), .int .u32 ((S k).nd.right : Int)] 50)).heap[w3.heap.size]? = some (Obj.cells #[Value.int .u32 ((S k).nd.left : Int), .int .u32 ((S k).nd.right : Int)] 50)) := ⟨hE4.same (fun i _ => by rw [ph_zero]; rfl), hK⟩
      generalize w3.alloc (Obj.cells #[Value.int .u32 ((S k).nd.left : Int), .int .u32 ((S k).nd.right : Int)] 50) = w4 at HK ⊢
      generalize w3.heap.size = kb at hkb HK ⊢
      clear hE3 hal hE4 hK hb3 hb hs hlb
      go_loopw [6] (fun i w5 => ∃ t : Nat, t ≤ 2 ∧ i = .int .i64 (t : Int) ∧ EdgeRel S n q w1 (fun i => eg S k (i + 1) + ph t (S k) (i + 1)) w5 ∧ w5.heap[kb]? = some (Obj.cells #[Value.int .u32 ((S k).nd.left : Int), .int .u32 ((S k).nd.right : Int)] 50)) (fun i _ => 2 - (intOf i).toNat)
      case atStart => exact ⟨0, by omega, rfl, HK.out.1, HK.out.2⟩
      case round =>
        clear HK
        obtain ⟨t, ht, rfl, hE, hK⟩ := hrel
        have hb := hE.2
        by_cases htl : t < 2
        · have hti : (t : Int) < 2 := by omega
          have hti0 : (0 : Int) ≤ (t : Int) := by omega
          obtain ⟨hc0, hc1⟩ := (HX.out.below hb (by omega)).cells
          obtain ⟨b2, off2, hbo, hlb, d0, _⟩ := (HS.out.below (hb.mono (Nat.le_of_eq HZ.out))).all hlt
          simp only [Option.some.injEq, Addr.mk.injEq, and_true] at hbo
          obtain ⟨rfl, rfl⟩ := hbo
          have hkt := kid_at (s := S k) hK htl
          have hX4 : (kd (S k) t) < 4294967296 := by unfold kd; split <;> assumption
          have hph := fun x => ph_succ t (S k) x
          have HP := Lib.hid hph
          have HKB := Lib.hid hK
          clear hph hK hb hc1
          generalize hXX : kd (S k) t = X at hkt hX4
          have HXX := Lib.hid hXX
          clear hXX
          have hXi : (X : Int) < 4294967296 := by omega
          by_cases hon : (S k).on = true ∧ 1 ≤ X ∧ X ≤ n
          · obtain ⟨hon, hx1, hx2⟩ := hon
            obtain ⟨j, rfl⟩ : ∃ j, X = j + 1 := ⟨X - 1, by omega⟩
            have HON := Lib.hid hon
            rw [hon] at d0
            have hjn : j < n := by omega
            have hji : (j : Int) < (n : Int) := by omega
            have hj1 : (1 : Int) ≤ (j : Int) + 1 := by omega
            have hjn2 : (j : Int) + 1 ≤ (n : Int) := by omega
            have hxw : ((j + 1 : Nat) : Int) = (j : Int) + 1 := by omega
            have hcj := (hE.1.cellAt j (by omega)).trans (natR_at _ hjn)
            have hfj := hE.1.frozenAt j
            have hle := eg_le S k (j + 1)
            have hle2 := ph_le t (S k) (j + 1)
            have HE := Lib.hid hE
            generalize hT : eg S k (j + 1) + ph t (S k) (j + 1) = T at hcj
            have HT := Lib.hid hT
            have hTi : (T : Int) ≤ 1000000 := by omega
            have hTi0 : (0 : Int) ≤ (T : Int) := by omega
            clear hT hE hon hx1 hx2 hle hle2
            go_wp2
            refine ⟨⟨t + 1, by omega, by go_num, HE.out.store j _ ?_ (Nat.le_of_eq HZ.out.symm) ?_, (heap_setCell_other _ _ _ _ (by show kb ≠ q + 1; omega)).trans HKB.out⟩, by simp [intOf]; omega⟩
            · rw [HP.out, if_pos ⟨HON.out, HXX.out⟩, ← Nat.add_assoc, HT.out]; omega
            · intro i hi hne
              rw [HP.out, if_neg (fun e => hne (by have := HXX.out.symm.trans e.2; omega))]; rfl
          · have hsame : EdgeRel S n q w1 (fun i => eg S k (i + 1) + ph (t + 1) (S k) (i + 1)) _ := hE.same (fun i hi => by
              rw [HP.out, if_neg (fun e => hon ⟨e.1, by have := HXX.out.symm.trans e.2; omega, by have := HXX.out.symm.trans e.2; omega⟩)]; rfl)
            have HSM := Lib.hid hsame
            clear hsame hE
            cases ho : (S k).on
            · rw [ho] at d0
              clear ho hon
              go_wp2
              exact ⟨⟨t + 1, by omega, by go_num, HSM.out, HKB.out⟩, by simp [intOf]; omega⟩
            · rw [ho] at d0
              by_cases hx0 : X = 0
              · subst hx0
                clear ho hon
                go_wp2
                exact ⟨⟨t + 1, by omega, by go_num, HSM.out, HKB.out⟩, by simp [intOf]; omega⟩
              · have h1 : (1 : Int) ≤ (X : Int) := by omega
                have h2 : ¬ (X : Int) ≤ (n : Int) := by
                  intro h3; exact hon ⟨ho, by omega, by omega⟩
                clear ho hon hx0
                go_wp2
                exact ⟨⟨t + 1, by omega, by go_num, HSM.out, HKB.out⟩, by simp [intOf]; omega⟩
        · obtain rfl : t = 2 := by omega
          have HEE := Lib.hid hE
          clear hE hK hb
          go_wp2
          exact ⟨⟨k + 1, by omega, by go_num, HEE.out.same (fun i _ => by rw [eg_succ])⟩, by simp [intOf]; omega⟩
    · obtain rfl : k = n := by omega
      have HE := Lib.hid hE
      have HBB := Lib.hid hb
      clear hE hX hc1
      go_wp2
      go_ret
      exact ⟨_, rfl, row_mono HE.out.1 (by rw [HQ.out]; omega), by rw [HQ.out]; exact HB.out.trans (HBB.out.mono (by omega))⟩
end Go.Proofs.YtfihklpofmcfgaaGreat
namespace Go.Proofs.YtfihklpofmcfgaaGreat
/-- x is an allocated slot -/
def Al (S : Nat → Sl) (n x : Nat) : Prop := 1 ≤ x ∧ x ≤ n ∧ (S (x - 1)).on = true
instance (S : Nat → Sl) (n x : Nat) : Decidable (Al S n x) := by unfold Al; exact inferInstance
inductive Rch (S : Nat → Sl) (n : Nat) (rs : List Nat) : Nat → Prop where
  | root (x : Nat) : x ∈ rs → Al S n x → Rch S n rs x
  | kid (x t : Nat) : Rch S n rs x → t < 2 → Al S n (kd (S (x - 1)) t) → Rch S n rs (kd (S (x - 1)) t)
theorem Rch.al {S : Nat → Sl} {n : Nat} {rs : List Nat} {x : Nat} (h : Rch S n rs x) : Al S n x := by
  cases h with
  | root _ _ h => exact h
  | kid _ _ _ _ h => exact h
def setB (B : Nat → Bool) (j : Nat) : Nat → Bool := fun i => if i = j then true else B i
structure MInv (S : Nat → Sl) (n : Nat) (rs : List Nat) (B : Nat → Bool) (st : List Nat) : Prop where
  sound : ∀ j, j < n → B j = true → Rch S n rs (j + 1)
  stack : ∀ x ∈ st, Al S n x → Rch S n rs x
  roots : ∀ x ∈ rs, Al S n x → B (x - 1) = true ∨ x ∈ st
  kids : ∀ j, j < n → B j = true → ∀ t, t < 2 → Al S n (kd (S j) t) → B (kd (S j) t - 1) = true ∨ kd (S j) t ∈ st
theorem MInv.start (S : Nat → Sl) (n : Nat) (rs : List Nat) : MInv S n rs (fun _ => false) rs :=
  ⟨(fun j _ h => (by cases h)), (fun x h1 h2 => .root x h1 h2), (fun x h _ => .inr h), (fun j _ h => (by cases h))⟩
theorem MInv.skip {S : Nat → Sl} {n : Nat} {rs : List Nat} {B : Nat → Bool} {t : List Nat} {x : Nat} (h : MInv S n rs B (t ++ [x])) (hx : Al S n x → B (x - 1) = true) : MInv S n rs B t := by
  have key : ∀ y, Al S n y → (B (y - 1) = true ∨ y ∈ t ++ [x]) → B (y - 1) = true ∨ y ∈ t := fun y hy h1 => by
    rcases h1 with h1 | h1
    · exact .inl h1
    · rcases List.mem_append.1 h1 with h2 | h2
      · exact .inr h2
      · simp at h2; subst h2; exact .inl (hx hy)
  exact ⟨h.sound, fun y hy => h.stack y (by simp [hy]), fun y h1 h2 => key y h2 (h.roots y h1 h2), fun j h1 h2 u hu h3 => key _ h3 (h.kids j h1 h2 u hu h3)⟩
theorem MInv.mark {S : Nat → Sl} {n : Nat} {rs : List Nat} {B : Nat → Bool} {t : List Nat} {j : Nat} (h : MInv S n rs B (t ++ [j + 1])) (hx : Al S n (j + 1)) : MInv S n rs (setB B j) (t ++ [(S j).nd.left, (S j).nd.right]) := by
  have hr : Rch S n rs (j + 1) := h.stack _ (by simp) hx
  have hB : ∀ i, B i = true → setB B j i = true := fun i hi => by unfold setB; split <;> simp [hi]
  have key : ∀ y, Al S n y → (B (y - 1) = true ∨ y ∈ t ++ [j + 1]) → setB B j (y - 1) = true ∨ y ∈ t ++ [(S j).nd.left, (S j).nd.right] := fun y hy h1 => by
    rcases h1 with h1 | h1
    · exact .inl (hB _ h1)
    · rcases List.mem_append.1 h1 with h2 | h2
      · exact .inr (by simp [h2])
      · simp at h2; subst h2; exact .inl (by unfold setB; simp)
  refine ⟨fun i hi hb => ?_, fun y hy ha => ?_, fun y h1 h2 => key y h2 (h.roots y h1 h2), fun i hi hb u hu h3 => ?_⟩
  · unfold setB at hb
    by_cases e : i = j
    · subst e; exact hr
    · rw [if_neg e] at hb; exact h.sound i hi hb
  · rcases List.mem_append.1 hy with h2 | h2
    · exact h.stack y (by simp [h2]) ha
    · simp at h2
      rcases h2 with rfl | rfl
      · exact Rch.kid (S := S) (j + 1) 0 hr (by decide) ha
      · exact Rch.kid (S := S) (j + 1) 1 hr (by decide) ha
  · unfold setB at hb
    by_cases e : i = j
    · subst e
      refine .inr ?_
      unfold kd
      split <;> simp
    · rw [if_neg e] at hb; exact key _ h3 (h.kids i hi hb u hu h3)
theorem MInv.done {S : Nat → Sl} {n : Nat} {rs : List Nat} {B : Nat → Bool} (h : MInv S n rs B []) {j : Nat} (hj : j < n) : B j = true ↔ Rch S n rs (j + 1) := by
  refine ⟨h.sound j hj, fun hr => ?_⟩
  have key : ∀ y, Rch S n rs y → B (y - 1) = true := fun y hy => by
    induction hy with
    | root x h1 h2 =>
      rcases h.roots x h1 h2 with h3 | h3
      · exact h3
      · cases h3
    | kid x t h1 h2 h3 ih =>
      have h4 := h1.al
      obtain ⟨h5, h6, _⟩ := h4
      rcases h.kids (x - 1) (by omega) ih t h2 h3 with h7 | h7
      · exact h7
      · cases h7
  exact key _ hr
/-- how many are not marked -/
def um : Nat → (Nat → Bool) → Nat
  | 0, _ => 0
  | n + 1, B => um n B + if B n = true then 0 else 1
theorem um_le (B : Nat → Bool) : ∀ n, um n B ≤ n
  | 0 => Nat.le_refl _
  | n + 1 => by unfold um; have := um_le B n; split <;> omega
theorem um_out (B : Nat → Bool) (j : Nat) : ∀ n, n ≤ j → um n (setB B j) = um n B
  | 0, _ => rfl
  | n + 1, h => by
    unfold um
    rw [um_out B j n (by omega)]
    have : setB B j n = B n := by unfold setB; rw [if_neg (by omega)]
    rw [this]
theorem um_set (B : Nat → Bool) {j : Nat} (hb : B j = false) : ∀ n, j < n → um n (setB B j) + 1 = um n B
  | 0, h => by omega
  | n + 1, h => by
    unfold um
    by_cases e : j = n
    · subst e
      rw [um_out B j j (Nat.le_refl _), hb]
      have : setB B j j = true := by unfold setB; simp
      rw [this]
      simp
    · have ih := um_set B hb n (by omega)
      have : setB B j n = B n := by unfold setB; rw [if_neg (by omega)]
      rw [this]
      omega
end Go.Proofs.YtfihklpofmcfgaaGreat
