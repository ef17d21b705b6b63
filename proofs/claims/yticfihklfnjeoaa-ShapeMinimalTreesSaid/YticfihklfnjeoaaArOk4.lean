/- The program's arena: the node that is to be made. -/
import Derived.Test.YticfihklfnjeoaaArOk3
set_option linter.unusedVariables false
namespace Go.Proofs.Yticfihklfnjeoaa
open Go.RowKit
def Nd.base (key val : Int) (l r : Nat) : Nd := ⟨key, val, l, r, 1, val, val, val⟩
theorem add_node {A : Ar} (hok : A.σ.Ok) (ha : A.Agg) (hoff : ∀ i, A.σ.on i = false → A.nd i = Nd.zero) {key val : Int} {l r : Nat} (hl : A.Idx l) (hr : A.Idx r) (hv1 : -9223372036854775808 ≤ val) (hv2 : val ≤ 9223372036854775807) :
    ((Nd.base key val l r).add (A.nd l)).add (A.nd r) = A.node key val l r := by
  have h0 : A.nd 0 = Nd.zero := hoff 0 (by cases hq : A.σ.on 0 with | false => rfl | true => have := hok.on 0 hq; omega)
  have hsz : ∀ i, A.Idx i → (i = 0 ∧ (A.nd i).size = 0 ∧ A.nd i = Nd.zero) ∨ (i ≠ 0 ∧ (A.nd i).size ≠ 0) := fun i hi => by
    by_cases e : i = 0
    · subst e; exact .inl ⟨rfl, by rw [h0]; rfl, h0⟩
    · rcases hi with h1 | h1
      · exact absurd h1 e
      · have := (ha.size i h1).1; exact .inr ⟨e, by omega⟩
  have hw : IntKind.i64.wrap val = val := by rw [IntKind.wrap_i64]; omega
  unfold Ar.node Ar.sz Ar.sm Ar.low Ar.high Nd.add Nd.base
  rcases hsz l hl with ⟨rfl, e1, e2⟩ | ⟨e1, e2⟩ <;> rcases hsz r hr with ⟨rfl, e3, e4⟩ | ⟨e3, e4⟩
  · simp [e1, hw]
  · simp [e1, e3, e4, hw]
  · simp [e3, e1, e2]
    rw [IntKind.wrap_i64, IntKind.wrap_i64]; omega
  · simp [e1, e2, e3, e4]
theorem add_size (x c : Nd) : (x.add c).size = x.size + c.size := by
  unfold Nd.add
  split
  · omega
  · rfl
theorem node_sizes {A : Ar} (ha : A.Agg) (hoff : ∀ i, A.σ.on i = false → A.nd i = Nd.zero) (i : Nat) : 0 ≤ (A.nd i).size ∧ (A.nd i).size ≤ 2147483647 := by
  cases ho : A.σ.on i with
  | true => have := ha.size i ho; omega
  | false => rw [hoff i ho]; exact ⟨Int.le_refl 0, by decide⟩
theorem row8v {w : World} {b : Nat} {t : TypeId} {x : Nd} (h : w.heap[b]? = some (.cells (nodA x) t (0, 0))) :
    w.cell? ⟨b, 0, none⟩ = some (.int .i64 x.key) ∧ w.cell? ⟨b, 1, none⟩ = some (.int .i64 x.val) ∧ w.cell? ⟨b, 2, none⟩ = some (.int .u32 (x.left : Int)) ∧ w.cell? ⟨b, 3, none⟩ = some (.int .u32 (x.right : Int)) ∧ w.cell? ⟨b, 4, none⟩ = some (.int .i64 x.size) ∧ w.cell? ⟨b, 5, none⟩ = some (.int .i64 x.sum) ∧ w.cell? ⟨b, 6, none⟩ = some (.int .i64 x.mn) ∧ w.cell? ⟨b, 7, none⟩ = some (.int .i64 x.mx) := row8n h
section
variable {I : Impl} {w w' : World} {ab : Nat} {sp : Addr} {A A' : Ar} {rd : Int} {ca : Option Addr} {cc g : Nat} {Fs Fs' : Nat → Prop}
def AsmRes (w : World) (A : Ar) (key val : Int) (l r : Nat) (e : Ending) (w' : World) : Prop :=
  ((A.Idx l ∧ A.Idx r ∧ (A.node key val l r).size ≤ 2147483647) ∧ e = .returned (.tuple #[.agg (nodA (A.node key val l r)), .bool true]) ∨ ¬ (A.Idx l ∧ A.Idx r ∧ (A.node key val l r).size ≤ 2147483647) ∧ e = .returned (.tuple #[.agg (nodA Nd.zero), .bool false])) ∧ Below w.heap.size w w'
theorem idx_true {A : Ar} {i : Nat} (h : (decide (i = 0) || A.σ.on i) = true) : A.Idx i := by
  simp at h
  exact h
theorem idx_false {A : Ar} {i : Nat} (h : (decide (i = 0) || A.σ.on i) = false) : ¬ A.Idx i := by
  simp at h
  rintro (e | e)
  · exact h.1 e
  · rw [h.2] at e; cases e
theorem trans_of' {w a b : World} (h : Below w.heap.size w a) (hb : Below a.heap.size a b) : Below w.heap.size w b := h.trans (hb.mono h.size)
theorem below_blk {w w' : World} {p : Nat} (h : Below p w w') (hp : w.heap.size = p) : Below w.heap.size w w' := by rw [hp]; exact h
theorem keep_blk {w w' : World} {b : Nat} {o : Obj} (h : w.heap[b]? = some o) (hb : Below w.heap.size w w') : w'.heap[b]? = some o := (hb.block b (Array.getElem?_eq_some_iff.1 h).1).trans h
set_option maxHeartbeats 4000000 in
set_option maxRecDepth 100000 in
theorem a_assemble (h : LieA I w ab sp A rd (some ⟨g, 0, none⟩) cc Fs) (ha : A.Agg) (key val : Int) (l r : Nat) (hl : l < 4294967296) (hr : r < 4294967296) (hv1 : -9223372036854775808 ≤ val) (hv2 : val ≤ 9223372036854775807) :
    Calls Try.prog 52 #[.pointer (some ⟨ab, 0, none⟩), .int .i64 key, .int .i64 val, .int .u32 (l : Int), .int .u32 (r : Int)] w (AsmRes w A key val l r) := by
  have HU : Hid _ := Lib.hid Try.underlying47
  have HIN := Lib.hid nodInfo
  have hb1 := below_al w (Obj.cells (nodA Nd.zero) 47)
  have HP := Lib.hid (heap_alloc_new w (Obj.cells (nodA Nd.zero) 47))
  have HB1 := Lib.hid hb1
  have H2 := Lib.hid (h.below hb1)
  have HOK := Lib.hid h.ok
  have hoff : ∀ i, A.σ.on i = false → A.nd i = Nd.zero := fun i hi => (h.off i hi).2
  have HADD : Hid (A.Idx l → A.Idx r → ((Nd.base key val l r).add (A.nd l)).add (A.nd r) = A.node key val l r) := fun h1 h2 => add_node h.ok ha hoff h1 h2 hv1 hv2
  have HSL := Lib.hid (node_sizes ha hoff l)
  have HSR := Lib.hid (node_sizes ha hoff r)
  clear h hb1 ha hoff
  go_enter Try.func52, Try.ntmps52
  go_upto_region 1 with fail
  rw [show #[Value.int .i64 0, .int .i64 0, .int .u32 0, .int .u32 0, .int .i64 0, .int .i64 0, .int .i64 0, .int .i64 0] = nodA Nd.zero from rfl]
  generalize w.alloc (Obj.cells (nodA Nd.zero) 47) = w1 at HP HB1 H2 ⊢
  obtain ⟨p, hp⟩ : ∃ p, w.heap.size = p := ⟨_, rfl⟩
  rw [hp] at HP HB1 ⊢
  have HPP := Lib.hid hp
  clear hp
  go_wp2_with fail
  refine (a_child H2.out l hl).mono ?_
  rintro e w2 ⟨rfl, hb2⟩
  have HP2 := Lib.hid (keep_blk HP.out hb2)
  have H3 := Lib.hid (H2.out.below hb2)
  have HBA := Lib.hid (trans_of' (below_blk HB1.out HPP.out) hb2)
  clear hb2
  obtain ⟨bl, hbl⟩ : ∃ bl, (decide (l = 0) || A.σ.on l) = bl := ⟨_, rfl⟩
  rw [hbl]
  have HBL := Lib.hid hbl
  clear hbl
  have hal3 := below_al w2 (Obj.cells (nodA (A.nd l)) 47)
  have hx3 := heap_alloc_new w2 (Obj.cells (nodA (A.nd l)) 47)
  have H4 := Lib.hid (H3.out.below hal3)
  have HP3 := Lib.hid (keep_blk HP2.out hal3)
  have HBB := Lib.hid (trans_of' HBA.out hal3)
  have HX3 := Lib.hid hx3
  clear hal3 hx3
  unfold nodA
  go_upto_region 2 with fail
  unfold nodA at HX3 H4 HP3 HBB
  generalize w2.alloc _ = w3 at HX3 H4 HP3 HBB ⊢
  obtain ⟨q, hq⟩ : ∃ q, w2.heap.size = q := ⟨_, rfl⟩
  rw [hq] at HX3 ⊢
  have HQ := Lib.hid hq
  clear hq
  go_wp2_with fail
  refine (a_child H4.out r hr).mono ?_
  rintro e w4 ⟨rfl, hb4⟩
  have HP4 := Lib.hid (keep_blk HP3.out hb4)
  have HX4 := Lib.hid (keep_blk HX3.out hb4)
  have HBC := Lib.hid (trans_of' HBB.out hb4)
  clear hb4
  obtain ⟨br, hbr⟩ : ∃ br, (decide (r = 0) || A.σ.on r) = br := ⟨_, rfl⟩
  rw [hbr]
  have HBR := Lib.hid hbr
  clear hbr
  have hal5 := below_al w4 (Obj.cells (nodA (A.nd r)) 47)
  have hx5 := heap_alloc_new w4 (Obj.cells (nodA (A.nd r)) 47)
  have HP5 := Lib.hid (keep_blk HP4.out hal5)
  have HY5 := Lib.hid (keep_blk HX4.out hal5)
  have HBD := Lib.hid (trans_of' HBC.out hal5)
  have HX5 := Lib.hid hx5
  clear hal5 hx5
  unfold nodA
  go_upto_region 3 with fail
  unfold nodA at HX5 HP5 HY5 HBD
  generalize w4.alloc _ = w5 at HX5 HP5 HY5 HBD ⊢
  obtain ⟨q2, hq2⟩ : ∃ q2, w4.heap.size = q2 := ⟨_, rfl⟩
  rw [hq2] at HX5 ⊢
  have HQ2 := Lib.hid hq2
  clear hq2
  have HSZ : Hid (A.Idx l → A.Idx r → (A.node key val l r).size = 1 + (A.nd l).size + (A.nd r).size) := fun h1 h2 => by
    rw [← HADD.out h1 h2, add_size, add_size]; rfl
  cases bl with
  | false =>
    go_wp2_with (refine wpList_store_row rfl 47 (.tmp 10) (.tmp 43) rfl p (nodA Nd.zero) rfl rfl 47 _ HP5.out HIN.out rfl (nod_ones _) ?_)
    refine bodyPost_ret (results_row_tmp rfl _ _ p 47 (nodA Nd.zero) (0, 0) _ rfl (setRow_heap _ _ _ _ _ _ HP5.out) HU.out rfl HIN.out) rfl ?_
    have hpp := HPP.out
    exact ⟨.inr ⟨fun h => idx_false HBL.out h.1, rfl⟩, below_row HBD.out (by omega)⟩
  | true =>
    cases br with
    | false =>
      go_wp2_with (refine wpList_store_row rfl 47 (.tmp 10) (.tmp 43) rfl p (nodA Nd.zero) rfl rfl 47 _ HP5.out HIN.out rfl (nod_ones _) ?_)
      refine bodyPost_ret (results_row_tmp rfl _ _ p 47 (nodA Nd.zero) (0, 0) _ rfl (setRow_heap _ _ _ _ _ _ HP5.out) HU.out rfl HIN.out) rfl ?_
      have hpp := HPP.out
      exact ⟨.inr ⟨fun h => idx_false HBR.out h.2.1, rfl⟩, below_row HBD.out (by omega)⟩
    | true =>
      obtain ⟨_, _, _, _, y4, _⟩ := row8v (x := A.nd l) HY5.out
      obtain ⟨_, _, _, _, z4, _⟩ := row8v (x := A.nd r) HX5.out
      obtain ⟨sl0, sl1⟩ := HSL.out
      obtain ⟨sr0, sr1⟩ := HSR.out
      by_cases hs : (A.nd l).size + (A.nd r).size ≤ 2147483646
      · have HS := Lib.hid hs
        have hg : decide (2147483646 - (A.nd r).size < (A.nd l).size) = false := decide_eq_false (by omega)
        clear hs
        go_upto_region 6 with fail
        have hal6 := below_al w5 (Obj.cells (nodA (Nd.base key val l r)) 47)
        have hx6 := heap_alloc_new w5 (Obj.cells (nodA (Nd.base key val l r)) 47)
        have HP6 := Lib.hid (keep_blk HP5.out hal6)
        have HY6 := Lib.hid (keep_blk HY5.out hal6)
        have HX6 := Lib.hid (keep_blk HX5.out hal6)
        have HBE := Lib.hid (trans_of' HBD.out hal6)
        have HZ6 := Lib.hid hx6
        have n1 : Hid (p < w5.heap.size ∧ q < w5.heap.size ∧ q2 < w5.heap.size) := ⟨(Array.getElem?_eq_some_iff.1 HP5.out).1, (Array.getElem?_eq_some_iff.1 HY5.out).1, (Array.getElem?_eq_some_iff.1 HX5.out).1⟩
        clear hal6 hx6 y4 z4
        rw [show #[Value.int .i64 key, .int .i64 val, .int .u32 (l : Int), .int .u32 (r : Int), .int .i64 1, .int .i64 val, .int .i64 val, .int .i64 val] = nodA (Nd.base key val l r) from rfl]
        generalize w5.alloc (Obj.cells (nodA (Nd.base key val l r)) 47) = w6 at HP6 HY6 HX6 HBE HZ6 ⊢
        obtain ⟨q3, hq3⟩ : ∃ q3, w5.heap.size = q3 := ⟨_, rfl⟩
        rw [hq3] at HZ6 n1 ⊢
        have HQ3 := Lib.hid hq3
        clear hq3
        obtain ⟨y0, y1, y2, y3, y4, y5, y6, y7⟩ := row8v (x := A.nd l) HY6.out
        go_wp2_with fail
        refine (a_addAgg _ q3 (Nd.base key val l r) (A.nd l) HZ6.out (show (0 : Int) ≤ 1 by decide) (show (1 : Int) ≤ 2147483647 by decide) sl0 sl1).mono ?_
        rintro e w7 ⟨⟨v7, rfl⟩, hZ7, ha7⟩
        have hk7 : ∀ b, b < q3 → b < w6.heap.size → w7.heap[b]? = w6.heap[b]? := fun b hb hb2 => ha7.block b hb2 (by omega)
        have HZ7 := Lib.hid hZ7
        have n6 : Hid (p < w6.heap.size ∧ q2 < w6.heap.size) := ⟨(Array.getElem?_eq_some_iff.1 HP6.out).1, (Array.getElem?_eq_some_iff.1 HX6.out).1⟩
        have HP7 := Lib.hid ((hk7 p n1.out.1 n6.out.1).trans HP6.out)
        have HX7 := Lib.hid ((hk7 q2 n1.out.2.2 n6.out.2).trans HX6.out)
        have HBF : Hid (Below p w w7) := by
          have h9 := HBE.out
          rw [HPP.out] at h9
          exact ha7.below h9 (by have := h9.size; rw [HPP.out] at this; exact this) (fun k hk => by have := n1.out.1; omega)
        clear ha7 hk7 y0 y1 y2 y3 y4 y5 y6 y7 hZ7
        obtain ⟨z0, z1, z2, z3, z4, z5, z6, z7⟩ := row8v (x := A.nd r) HX7.out
        go_wp2_with fail
        have hsz1 := add_size (Nd.base key val l r) (A.nd l)
        have hb1 : (Nd.base key val l r).size = 1 := rfl
        refine (a_addAgg _ q3 ((Nd.base key val l r).add (A.nd l)) (A.nd r) HZ7.out (by omega) (by have := HS.out; omega) sr0 sr1).mono ?_
        rintro e w8 ⟨⟨v8, rfl⟩, hZ8, ha8⟩
        have n7 : Hid (p < w7.heap.size) := (Array.getElem?_eq_some_iff.1 HP7.out).1
        have HP8 := Lib.hid ((ha8.block p n7.out (by have := n1.out.1; omega)).trans HP7.out)
        have HBG : Hid (Below p w w8) := by
          have h9 := HBF.out
          exact ha8.below h9 (by have := h9.size; rw [HPP.out] at this; exact this) (fun k hk => by have := n1.out.1; omega)
        have HID := Lib.hid (idx_true HBL.out)
        have HIE := Lib.hid (idx_true HBR.out)
        rw [HADD.out HID.out HIE.out] at hZ8
        have HZ8 := Lib.hid hZ8
        clear ha8 hZ8 z0 z1 z2 z3 z4 z5 z6 z7 hsz1 hb1
        obtain ⟨z0, z1, z2, z3, z4, z5, z6, z7⟩ := row8v HZ8.out
        go_wp2_with (refine wpList_store_row rfl 47 (.tmp 10) (.tmp 56) rfl p (nodA (A.node key val l r)) rfl rfl 47 _ HP8.out HIN.out rfl (nod_ones _) ?_)
        refine bodyPost_ret (results_row_tmp rfl _ _ p 47 (nodA (A.node key val l r)) (0, 0) _ rfl (setRow_heap _ _ _ _ _ _ HP8.out) HU.out rfl HIN.out) rfl ?_
        have hpp := HPP.out
        exact ⟨.inl ⟨⟨HID.out, HIE.out, by rw [HSZ.out HID.out HIE.out]; have := HS.out; omega⟩, rfl⟩, below_row (by rw [hpp]; exact HBG.out) (by omega)⟩
      · have HS := Lib.hid hs
        have hg : 2147483646 - (A.nd r).size < (A.nd l).size := by omega
        clear hs
        go_wp2_with (refine wpList_store_row rfl 47 (.tmp 10) (.tmp 43) rfl p (nodA Nd.zero) rfl rfl 47 _ HP5.out HIN.out rfl (nod_ones _) ?_)
        refine bodyPost_ret (results_row_tmp rfl _ _ p 47 (nodA Nd.zero) (0, 0) _ rfl (setRow_heap _ _ _ _ _ _ HP5.out) HU.out rfl HIN.out) rfl ?_
        have hpp := HPP.out
        exact ⟨.inr ⟨fun h => by have h1 := HSZ.out h.1 h.2.1; have h2 := h.2.2; have h3 := HS.out; omega, rfl⟩, below_row HBD.out (by omega)⟩
end
end Go.Proofs.Yticfihklfnjeoaa
