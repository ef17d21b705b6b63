/- The program's arena: the node that is to be made. The program's arena: Make. The program's arena: a reference less. -/
import Derived.Test.YtkhfofpbmnapjaaArOk3
import Derived.Test.YtkhfofpbmnapjaaPlayPure
set_option linter.unusedVariables false
namespace Go.Proofs.Ytkhfofpbmnapjaa
open Go.RowKit
def Nd.base (key val : Int) (l r : Nat) : Nd := ⟨key, val, l, r, 1, val, val, val⟩
theorem add_node {A : Ar} (hok : A.σ.Ok) (ha : A.Agg) (hoff : ∀ i, A.σ.on i = false → A.nd i = Nd.zero) {key val : Int} {l r : Nat} (hl : A.Idx l) (hr : A.Idx r) (hv1 : -9223372036854775808 ≤ val) (hv2 : val ≤ 9223372036854775807) :
    ((Nd.base key val l r).add (A.nd l)).add (A.nd r) = A.node key val l r := by
  have h0 : A.nd 0 = Nd.zero := hoff 0 (by cases hq : A.σ.on 0 with | false => rfl | true => have := hok.on 0 hq; omega)
  have hsz : ∀ i, A.Idx i → (i = 0 ∧ (A.nd i).size = 0 ∧ A.nd i = Nd.zero) ∨ (i ≠ 0 ∧ (A.nd i).size ≠ 0) := fun i hi => by
    by_cases e : i = 0
    · subst e; exact .inl ⟨rfl, by rw [h0]; rfl, h0⟩
    · rcases hi with h1 | h1
      · exact absurd h1 e
      · have := (ha.size i h1).1; exact .inr ⟨e, by omega⟩
  have hw : IntKind.i64.wrap val = val := by rw [IntKind.wrap_i64]; omega
  unfold Ar.node Ar.sz Ar.sm Ar.low Ar.high Nd.add Nd.base
  rcases hsz l hl with ⟨rfl, e1, e2⟩ | ⟨e1, e2⟩ <;> rcases hsz r hr with ⟨rfl, e3, e4⟩ | ⟨e3, e4⟩
  · simp [e1, hw]
  · simp [e1, e3, e4, hw]
  · simp [e3, e1, e2]
    rw [IntKind.wrap_i64, IntKind.wrap_i64]; omega
  · simp [e1, e2, e3, e4]
theorem add_size (x c : Nd) : (x.add c).size = x.size + c.size := by
  unfold Nd.add
  split
  · omega
  · rfl
theorem node_sizes {A : Ar} (ha : A.Agg) (hoff : ∀ i, A.σ.on i = false → A.nd i = Nd.zero) (i : Nat) : 0 ≤ (A.nd i).size ∧ (A.nd i).size ≤ 2147483647 := by
  cases ho : A.σ.on i with
  | true => have := ha.size i ho; omega
  | false => rw [hoff i ho]; exact ⟨Int.le_refl 0, by decide⟩
theorem row8v {w : World} {b : Nat} {t : TypeId} {x : Nd} (h : w.heap[b]? = some (.cells (nodA x) t (0, 0))) :
    w.cell? ⟨b, 0, none⟩ = some (.int .i64 x.key) ∧ w.cell? ⟨b, 1, none⟩ = some (.int .i64 x.val) ∧ w.cell? ⟨b, 2, none⟩ = some (.int .u32 (x.left : Int)) ∧ w.cell? ⟨b, 3, none⟩ = some (.int .u32 (x.right : Int)) ∧ w.cell? ⟨b, 4, none⟩ = some (.int .i64 x.size) ∧ w.cell? ⟨b, 5, none⟩ = some (.int .i64 x.sum) ∧ w.cell? ⟨b, 6, none⟩ = some (.int .i64 x.mn) ∧ w.cell? ⟨b, 7, none⟩ = some (.int .i64 x.mx) := row8n h
section
variable {I : Impl} {w w' : World} {ab : Nat} {sp : Addr} {A A' : Ar} {rd : Int} {ca : Option Addr} {cc g : Nat} {Fs Fs' : Nat → Prop}
def AsmRes (w : World) (A : Ar) (key val : Int) (l r : Nat) (e : Ending) (w' : World) : Prop :=
  ((A.Idx l ∧ A.Idx r ∧ (A.node key val l r).size ≤ 2147483647) ∧ e = .returned (.tuple #[.agg (nodA (A.node key val l r)), .bool true]) ∨ ¬ (A.Idx l ∧ A.Idx r ∧ (A.node key val l r).size ≤ 2147483647) ∧ e = .returned (.tuple #[.agg (nodA Nd.zero), .bool false])) ∧ Below w.heap.size w w'
theorem idx_true {A : Ar} {i : Nat} (h : (decide (i = 0) || A.σ.on i) = true) : A.Idx i := by
  simp at h
  exact h
theorem idx_false {A : Ar} {i : Nat} (h : (decide (i = 0) || A.σ.on i) = false) : ¬ A.Idx i := by
  simp at h
  rintro (e | e)
  · exact h.1 e
  · rw [h.2] at e; cases e
theorem trans_of' {w a b : World} (h : Below w.heap.size w a) (hb : Below a.heap.size a b) : Below w.heap.size w b := h.trans (hb.mono h.size)
theorem below_blk {w w' : World} {p : Nat} (h : Below p w w') (hp : w.heap.size = p) : Below w.heap.size w w' := by rw [hp]; exact h
theorem keep_blk {w w' : World} {b : Nat} {o : Obj} (h : w.heap[b]? = some o) (hb : Below w.heap.size w w') : w'.heap[b]? = some o := (hb.block b (Array.getElem?_eq_some_iff.1 h).1).trans h
set_option maxHeartbeats 4000000 in
set_option maxRecDepth 100000 in
theorem a_assemble (h : LieA I w ab sp A rd (some ⟨g, 0, none⟩) cc Fs) (ha : A.Agg) (key val : Int) (l r : Nat) (hl : l < 4294967296) (hr : r < 4294967296) (hv1 : -9223372036854775808 ≤ val) (hv2 : val ≤ 9223372036854775807) :
    Calls Try.prog 43 #[.pointer (some ⟨ab, 0, none⟩), .int .i64 key, .int .i64 val, .int .u32 (l : Int), .int .u32 (r : Int)] w (AsmRes w A key val l r) := by
  have HU : Hid _ := Lib.hid Try.underlying40
  have HIN := Lib.hid nodInfo
  have hb1 := below_al w (Obj.cells (nodA Nd.zero) 40)
  have HP := Lib.hid (heap_alloc_new w (Obj.cells (nodA Nd.zero) 40))
  have HB1 := Lib.hid hb1
  have H2 := Lib.hid (h.below hb1)
  have HOK := Lib.hid h.ok
  have hoff : ∀ i, A.σ.on i = false → A.nd i = Nd.zero := fun i hi => (h.off i hi).2
  have HADD : Hid (A.Idx l → A.Idx r → ((Nd.base key val l r).add (A.nd l)).add (A.nd r) = A.node key val l r) := fun h1 h2 => add_node h.ok ha hoff h1 h2 hv1 hv2
  have HSL := Lib.hid (node_sizes ha hoff l)
  have HSR := Lib.hid (node_sizes ha hoff r)
  clear h hb1 ha hoff
  go_enter Try.func43, Try.ntmps43
  go_upto_region 1 with fail
  rw [show #[Value.int .i64 0, .int .i64 0, .int .u32 0, .int .u32 0, .int .i64 0, .int .i64 0, .int .i64 0, .int .i64 0] = nodA Nd.zero from rfl]
  generalize w.alloc (Obj.cells (nodA Nd.zero) 40) = w1 at HP HB1 H2 ⊢
  obtain ⟨p, hp⟩ : ∃ p, w.heap.size = p := ⟨_, rfl⟩
  rw [hp] at HP HB1 ⊢
  have HPP := Lib.hid hp
  clear hp
  go_wp2_with fail
  refine (a_child H2.out l hl).mono ?_
  rintro e w2 ⟨rfl, hb2⟩
  have HP2 := Lib.hid (keep_blk HP.out hb2)
  have H3 := Lib.hid (H2.out.below hb2)
  have HBA := Lib.hid (trans_of' (below_blk HB1.out HPP.out) hb2)
  clear hb2
  obtain ⟨bl, hbl⟩ : ∃ bl, (decide (l = 0) || A.σ.on l) = bl := ⟨_, rfl⟩
  rw [hbl]
  have HBL := Lib.hid hbl
  clear hbl
  have hal3 := below_al w2 (Obj.cells (nodA (A.nd l)) 40)
  have hx3 := heap_alloc_new w2 (Obj.cells (nodA (A.nd l)) 40)
  have H4 := Lib.hid (H3.out.below hal3)
  have HP3 := Lib.hid (keep_blk HP2.out hal3)
  have HBB := Lib.hid (trans_of' HBA.out hal3)
  have HX3 := Lib.hid hx3
  clear hal3 hx3
  unfold nodA
  go_upto_region 2 with fail
  unfold nodA at HX3 H4 HP3 HBB
  generalize w2.alloc _ = w3 at HX3 H4 HP3 HBB ⊢
  obtain ⟨q, hq⟩ : ∃ q, w2.heap.size = q := ⟨_, rfl⟩
  rw [hq] at HX3 ⊢
  have HQ := Lib.hid hq
  clear hq
  go_wp2_with fail
  refine (a_child H4.out r hr).mono ?_
  rintro e w4 ⟨rfl, hb4⟩
  have HP4 := Lib.hid (keep_blk HP3.out hb4)
  have HX4 := Lib.hid (keep_blk HX3.out hb4)
  have HBC := Lib.hid (trans_of' HBB.out hb4)
  clear hb4
  obtain ⟨br, hbr⟩ : ∃ br, (decide (r = 0) || A.σ.on r) = br := ⟨_, rfl⟩
  rw [hbr]
  have HBR := Lib.hid hbr
  clear hbr
  have hal5 := below_al w4 (Obj.cells (nodA (A.nd r)) 40)
  have hx5 := heap_alloc_new w4 (Obj.cells (nodA (A.nd r)) 40)
  have HP5 := Lib.hid (keep_blk HP4.out hal5)
  have HY5 := Lib.hid (keep_blk HX4.out hal5)
  have HBD := Lib.hid (trans_of' HBC.out hal5)
  have HX5 := Lib.hid hx5
  clear hal5 hx5
  unfold nodA
  go_upto_region 3 with fail
  unfold nodA at HX5 HP5 HY5 HBD
  generalize w4.alloc _ = w5 at HX5 HP5 HY5 HBD ⊢
  obtain ⟨q2, hq2⟩ : ∃ q2, w4.heap.size = q2 := ⟨_, rfl⟩
  rw [hq2] at HX5 ⊢
  have HQ2 := Lib.hid hq2
  clear hq2
  have HSZ : Hid (A.Idx l → A.Idx r → (A.node key val l r).size = 1 + (A.nd l).size + (A.nd r).size) := fun h1 h2 => by
    rw [← HADD.out h1 h2, add_size, add_size]; rfl
  cases bl with
  | false =>
    go_wp2_with (refine wpList_store_row rfl 40 (.tmp 10) (.tmp 43) rfl p (nodA Nd.zero) rfl rfl 40 _ HP5.out HIN.out rfl (nod_ones _) ?_)
    refine bodyPost_ret (results_row_tmp rfl _ _ p 40 (nodA Nd.zero) (0, 0) _ rfl (setRow_heap _ _ _ _ _ _ HP5.out) HU.out rfl HIN.out) rfl ?_
    have hpp := HPP.out
    exact ⟨.inr ⟨fun h => idx_false HBL.out h.1, rfl⟩, below_row HBD.out (by omega)⟩
  | true =>
    cases br with
    | false =>
      go_wp2_with (refine wpList_store_row rfl 40 (.tmp 10) (.tmp 43) rfl p (nodA Nd.zero) rfl rfl 40 _ HP5.out HIN.out rfl (nod_ones _) ?_)
      refine bodyPost_ret (results_row_tmp rfl _ _ p 40 (nodA Nd.zero) (0, 0) _ rfl (setRow_heap _ _ _ _ _ _ HP5.out) HU.out rfl HIN.out) rfl ?_
      have hpp := HPP.out
      exact ⟨.inr ⟨fun h => idx_false HBR.out h.2.1, rfl⟩, below_row HBD.out (by omega)⟩
    | true =>
      obtain ⟨_, _, _, _, y4, _⟩ := row8v (x := A.nd l) HY5.out
      obtain ⟨_, _, _, _, z4, _⟩ := row8v (x := A.nd r) HX5.out
      obtain ⟨sl0, sl1⟩ := HSL.out
      obtain ⟨sr0, sr1⟩ := HSR.out
      by_cases hs : (A.nd l).size + (A.nd r).size ≤ 2147483646
      · have HS := Lib.hid hs
        have hg : decide (2147483646 - (A.nd r).size < (A.nd l).size) = false := decide_eq_false (by omega)
        clear hs
        go_upto_region 6 with fail
        have hal6 := below_al w5 (Obj.cells (nodA (Nd.base key val l r)) 40)
        have hx6 := heap_alloc_new w5 (Obj.cells (nodA (Nd.base key val l r)) 40)
        have HP6 := Lib.hid (keep_blk HP5.out hal6)
        have HY6 := Lib.hid (keep_blk HY5.out hal6)
        have HX6 := Lib.hid (keep_blk HX5.out hal6)
        have HBE := Lib.hid (trans_of' HBD.out hal6)
        have HZ6 := Lib.hid hx6
        have n1 : Hid (p < w5.heap.size ∧ q < w5.heap.size ∧ q2 < w5.heap.size) := ⟨(Array.getElem?_eq_some_iff.1 HP5.out).1, (Array.getElem?_eq_some_iff.1 HY5.out).1, (Array.getElem?_eq_some_iff.1 HX5.out).1⟩
        clear hal6 hx6 y4 z4
        rw [show #[Value.int .i64 key, .int .i64 val, .int .u32 (l : Int), .int .u32 (r : Int), .int .i64 1, .int .i64 val, .int .i64 val, .int .i64 val] = nodA (Nd.base key val l r) from rfl]
        generalize w5.alloc (Obj.cells (nodA (Nd.base key val l r)) 40) = w6 at HP6 HY6 HX6 HBE HZ6 ⊢
        obtain ⟨q3, hq3⟩ : ∃ q3, w5.heap.size = q3 := ⟨_, rfl⟩
        rw [hq3] at HZ6 n1 ⊢
        have HQ3 := Lib.hid hq3
        clear hq3
        obtain ⟨y0, y1, y2, y3, y4, y5, y6, y7⟩ := row8v (x := A.nd l) HY6.out
        go_wp2_with fail
        refine (a_addAgg _ q3 (Nd.base key val l r) (A.nd l) HZ6.out (show (0 : Int) ≤ 1 by decide) (show (1 : Int) ≤ 2147483647 by decide) sl0 sl1).mono ?_
        rintro e w7 ⟨⟨v7, rfl⟩, hZ7, ha7⟩
        have hk7 : ∀ b, b < q3 → b < w6.heap.size → w7.heap[b]? = w6.heap[b]? := fun b hb hb2 => ha7.block b hb2 (by omega)
        have HZ7 := Lib.hid hZ7
        have n6 : Hid (p < w6.heap.size ∧ q2 < w6.heap.size) := ⟨(Array.getElem?_eq_some_iff.1 HP6.out).1, (Array.getElem?_eq_some_iff.1 HX6.out).1⟩
        have HP7 := Lib.hid ((hk7 p n1.out.1 n6.out.1).trans HP6.out)
        have HX7 := Lib.hid ((hk7 q2 n1.out.2.2 n6.out.2).trans HX6.out)
        have HBF : Hid (Below p w w7) := by
          have h9 := HBE.out
          rw [HPP.out] at h9
          exact ha7.below h9 (by have := h9.size; rw [HPP.out] at this; exact this) (fun k hk => by have := n1.out.1; omega)
        clear ha7 hk7 y0 y1 y2 y3 y4 y5 y6 y7 hZ7
        obtain ⟨z0, z1, z2, z3, z4, z5, z6, z7⟩ := row8v (x := A.nd r) HX7.out
        go_wp2_with fail
        have hsz1 := add_size (Nd.base key val l r) (A.nd l)
        have hb1 : (Nd.base key val l r).size = 1 := rfl
        refine (a_addAgg _ q3 ((Nd.base key val l r).add (A.nd l)) (A.nd r) HZ7.out (by omega) (by have := HS.out; omega) sr0 sr1).mono ?_
        rintro e w8 ⟨⟨v8, rfl⟩, hZ8, ha8⟩
        have n7 : Hid (p < w7.heap.size) := (Array.getElem?_eq_some_iff.1 HP7.out).1
        have HP8 := Lib.hid ((ha8.block p n7.out (by have := n1.out.1; omega)).trans HP7.out)
        have HBG : Hid (Below p w w8) := by
          have h9 := HBF.out
          exact ha8.below h9 (by have := h9.size; rw [HPP.out] at this; exact this) (fun k hk => by have := n1.out.1; omega)
        have HID := Lib.hid (idx_true HBL.out)
        have HIE := Lib.hid (idx_true HBR.out)
        rw [HADD.out HID.out HIE.out] at hZ8
        have HZ8 := Lib.hid hZ8
        clear ha8 hZ8 z0 z1 z2 z3 z4 z5 z6 z7 hsz1 hb1
        obtain ⟨z0, z1, z2, z3, z4, z5, z6, z7⟩ := row8v HZ8.out
        go_wp2_with (refine wpList_store_row rfl 40 (.tmp 10) (.tmp 56) rfl p (nodA (A.node key val l r)) rfl rfl 40 _ HP8.out HIN.out rfl (nod_ones _) ?_)
        refine bodyPost_ret (results_row_tmp rfl _ _ p 40 (nodA (A.node key val l r)) (0, 0) _ rfl (setRow_heap _ _ _ _ _ _ HP8.out) HU.out rfl HIN.out) rfl ?_
        have hpp := HPP.out
        exact ⟨.inl ⟨⟨HID.out, HIE.out, by rw [HSZ.out HID.out HIE.out]; have := HS.out; omega⟩, rfl⟩, below_row (by rw [hpp]; exact HBG.out) (by omega)⟩
      · have HS := Lib.hid hs
        have hg : 2147483646 - (A.nd r).size < (A.nd l).size := by omega
        clear hs
        go_wp2_with (refine wpList_store_row rfl 40 (.tmp 10) (.tmp 43) rfl p (nodA Nd.zero) rfl rfl 40 _ HP5.out HIN.out rfl (nod_ones _) ?_)
        refine bodyPost_ret (results_row_tmp rfl _ _ p 40 (nodA Nd.zero) (0, 0) _ rfl (setRow_heap _ _ _ _ _ _ HP5.out) HU.out rfl HIN.out) rfl ?_
        have hpp := HPP.out
        exact ⟨.inr ⟨fun h => by have h1 := HSZ.out h.1 h.2.1; have h2 := h.2.2; have h3 := HS.out; omega, rfl⟩, below_row HBD.out (by omega)⟩
end
end Go.Proofs.Ytkhfofpbmnapjaa
set_option linter.unusedVariables false
namespace Go.Proofs.Ytkhfofpbmnapjaa
open Go.RowKit
/-- slot i is taken, with a node and one reference -/
def Ar.took (A : Ar) (i : Nat) (t : List Nat) (x : Nd) : Ar := ⟨A.σ.take i t, fun j => if j = i then x else A.nd j, fun j => if j = i then 1 else A.cnt j⟩
theorem cels_patch (A A' : Ar) {j : Nat} (hc : A'.σ.cap = A.σ.cap) (hj : j < A.σ.cap) (hn : ∀ i, i ≠ j + 1 → A'.nd i = A.nd i) (hcn : ∀ i, i ≠ j + 1 → A'.cnt i = A.cnt i) : patch (celsV A) (j * 9) (celV A' (j + 1)) = celsV A' := by
  refine cels_ext (by rw [patch_len, cels_len, hc]) fun i k hi hk => ?_
  rw [hc] at hi
  rw [patch_at, cel_len, cels_len]
  by_cases e : i = j
  · subst e
    rw [if_pos (by omega), show i * 9 + k - i * 9 = k by omega]
  · rw [if_neg (by omega), cels_at A hi hk]
    unfold celV
    rw [hn (i + 1) (by omega), hcn (i + 1) (by omega)]
theorem ret_σ (A : Ar) (l : Nat) : (A.ret l).σ = A.σ := by unfold Ar.ret; split <;> rfl
theorem ret_nd (A : Ar) (l : Nat) : (A.ret l).nd = A.nd := by unfold Ar.ret; split <;> rfl
theorem ret_cnt (A : Ar) (l m : Nat) : (A.ret l).cnt m = A.cnt m + (if l ≠ 0 ∧ m = l then 1 else 0) := by
  unfold Ar.ret Ar.inc
  by_cases h : l = 0
  · subst h; simp
  · rw [if_neg h]
    show (if m = l then A.cnt l + 1 else A.cnt m) = _
    by_cases e : m = l
    · subst e; simp [h]
    · simp [e]
theorem ar_ext {A B : Ar} (h1 : A.σ = B.σ) (h2 : A.nd = B.nd) (h3 : ∀ m, A.cnt m = B.cnt m) : A = B := by
  cases A; cases B
  have h4 := funext h3
  simp only at h1 h2 h4
  subst h1 h2 h4
  rfl
theorem made_took (A : Ar) {i l r : Nat} (t : List Nat) (key val : Int) (hl : l ≠ i) (hr : r ≠ i) (hi : i ≠ 0) : ((A.took i t (A.node key val l r)).ret l).ret r = A.made i t (A.node key val l r) := by
  refine ar_ext (by rw [ret_σ, ret_σ]; rfl) (by rw [ret_nd, ret_nd]; rfl) fun m => ?_
  rw [ret_cnt, ret_cnt]
  show (if m = i then (1 : Int) else A.cnt m) + _ + _ = if m = i then 1 else if m = 0 then A.cnt 0 else A.cnt m + (hit l m : Int) + (hit r m : Int)
  unfold hit
  by_cases e : m = i
  · subst e
    rw [if_pos rfl, if_pos rfl, if_neg (fun h => hl h.2.symm), if_neg (fun h => hr h.2.symm)]; rfl
  · rw [if_neg e, if_neg e]
    by_cases e0 : m = 0
    · subst e0
      rw [if_pos rfl, if_neg (fun h => h.1 h.2.symm), if_neg (fun h => h.1 h.2.symm)]; omega
    · rw [if_neg e0]
      have k1 : (if l ≠ 0 ∧ m = l then (1 : Int) else 0) = ((if l = m then 1 else 0 : Nat) : Int) := by
        by_cases e1 : l = m
        · subst e1; simp [e0]
        · simp [e1]; exact fun _ h => e1 h.symm
      have k2 : (if r ≠ 0 ∧ m = r then (1 : Int) else 0) = ((if r = m then 1 else 0 : Nat) : Int) := by
        by_cases e1 : r = m
        · subst e1; simp [e0]
        · simp [e1]; exact fun _ h => e1 h.symm
      rw [k1, k2]
theorem cnt_le {A : Ar} {held : Nat → Nat} (h : A.Inv [] held) (hm : ∀ j, held j ≤ 1048576) {i : Nat} (hi : A.σ.on i = true) : 1 ≤ A.cnt i ∧ A.cnt i ≤ 1179648 := by
  have h1 := h.cnt i hi
  have h2 := refs_le A i
  have h3 := hm i
  have h4 := h.ok.cap2
  have h5 := h.pos i hi
  simp at h1
  omega
theorem sets9 (w : World) (g o : Nat) (v0 v1 v2 v3 v4 v5 v6 v7 v8 : Value) : ((((((((w.setCell ⟨g, o, none⟩ v0).setCell ⟨g, o + 1, none⟩ v1).setCell ⟨g, o + 2, none⟩ v2).setCell ⟨g, o + 3, none⟩ v3).setCell ⟨g, o + 4, none⟩ v4).setCell ⟨g, o + 5, none⟩ v5).setCell ⟨g, o + 6, none⟩ v6).setCell ⟨g, o + 7, none⟩ v7).setCell ⟨g, o + 8, none⟩ v8 = w.setCells g o [v0, v1, v2, v3, v4, v5, v6, v7, v8] := rfl
section
variable {I : Impl} {w w' : World} {ab : Nat} {sp : Addr} {A A' : Ar} {rd : Int} {ca : Option Addr} {cc g : Nat} {Fs Fs' : Nat → Prop}
def ARef (I : Impl) (w : World) (ab : Nat) (sp : Addr) (A : Ar) (rd : Int) (g cc : Nat) (Fs : Nat → Prop) (e : Ending) (w' : World) : Prop :=
  (∃ v, e = .returned v) ∧ LieA I w' ab sp A rd (some ⟨g, 0, none⟩) cc Fs ∧ Alters (FootA ab (some ⟨g, 0, none⟩) Fs) (FootA ab (some ⟨g, 0, none⟩) Fs) w w'
theorem a_addRefI (h : LieA I w ab sp A rd (some ⟨g, 0, none⟩) cc Fs) (i : Nat) (hi : A.Idx i) (hc : A.σ.on i = true → A.cnt i < 4611686018427387904) :
    Calls Try.prog 45 #[.pointer (some ⟨ab, 0, none⟩), .int .u32 (i : Int)] w (ARef I w ab sp (A.ret i) rd g cc Fs) := by
  by_cases h0 : i = 0
  · subst h0
    have ho : A.σ.on 0 = false := by
      cases hq : A.σ.on 0 with
      | false => rfl
      | true => have := h.ok.on 0 hq; omega
    refine (a_addRef_off h 0 (by omega) ho).mono fun e w1 ⟨h1, hb⟩ => ⟨h1, ?_, .of_below hb⟩
    unfold Ar.ret
    rw [if_pos rfl]
    exact h.below hb
  · have hon : A.σ.on i = true := by rcases hi with e | e; exact absurd e h0; exact e
    have hle := h.ok.on i hon
    obtain ⟨j, rfl⟩ : ∃ j, i = j + 1 := ⟨i - 1, by omega⟩
    refine (a_addRef h j hon (hc hon)).mono fun e w1 ⟨h1, h2, h3⟩ => ⟨h1, ?_, h3⟩
    unfold Ar.ret
    rw [if_neg h0]
    exact h2
def AMake (I : Impl) (w : World) (ab : Nat) (sp : Addr) (A : Ar) (rd : Int) (g cc : Nat) (Fs : Nat → Prop) (key val : Int) (l r : Nat) (e : Ending) (w' : World) : Prop :=
  ∃ Fs', Alters (FootA ab (some ⟨g, 0, none⟩) Fs) (FootA ab (some ⟨g, 0, none⟩) Fs') w w' ∧
    (¬ (A.Idx l ∧ A.Idx r ∧ (A.node key val l r).size ≤ 2147483647) → e = .returned (.tuple #[.int .u32 0, .int .i64 1]) ∧ LieA I w' ab sp A rd (some ⟨g, 0, none⟩) cc Fs') ∧
    (A.Idx l ∧ A.Idx r ∧ (A.node key val l r).size ≤ 2147483647 → A.σ.free = [] → e = .returned (.tuple #[.int .u32 0, .int .i64 2]) ∧ LieA I w' ab sp A rd (some ⟨g, 0, none⟩) cc Fs') ∧
    (A.Idx l ∧ A.Idx r ∧ (A.node key val l r).size ≤ 2147483647 → ∀ i t, A.σ.free = i :: t → e = .returned (.tuple #[.int .u32 (i : Int), .int .i64 0]) ∧ LieA I w' ab sp (A.made i t (A.node key val l r)) rd (some ⟨g, 0, none⟩) cc Fs')
set_option maxHeartbeats 4000000 in
set_option maxRecDepth 100000 in
theorem a_make (h : LieA I w ab sp A rd (some ⟨g, 0, none⟩) cc Fs) (ha : A.Agg) (key val : Int) (l r : Nat) (hl : l < 4294967296) (hr : r < 4294967296) (hv1 : -9223372036854775808 ≤ val) (hv2 : val ≤ 9223372036854775807) (hcnt : ∀ i, A.σ.on i = true → 1 ≤ A.cnt i ∧ A.cnt i ≤ 1179648) :
    Calls Try.prog 25 #[.pointer (some ⟨ab, 0, none⟩), .int .i64 key, .int .i64 val, .int .u32 (l : Int), .int .u32 (r : Int)] w (AMake I w ab sp A rd g cc Fs key val l r) := by
  have HASM := Lib.hid (a_assemble h ha key val l r hl hr hv1 hv2)
  have HH := Lib.hid h
  have HCNT := Lib.hid hcnt
  clear h ha hcnt
  go_enter Try.func25, Try.ntmps25
  go_wp2_with fail
  refine HASM.out.mono ?_
  rintro e w1 ⟨hor, hb1⟩
  have HB1 := Lib.hid hb1
  have H1 := Lib.hid (HH.out.below hb1)
  clear HASM hb1
  rcases hor with ⟨hok, rfl⟩ | ⟨hno, rfl⟩
  · have HOK := Lib.hid hok
    clear hok
    have hal2 := below_al w1 (Obj.cells (nodA (A.node key val l r)) 40)
    have hx2 := heap_alloc_new w1 (Obj.cells (nodA (A.node key val l r)) 40)
    have H2 := Lib.hid (H1.out.below hal2)
    have HB2 := Lib.hid (trans_of' HB1.out hal2)
    have HX2 := Lib.hid hx2
    have HF1 : Hid (∀ k, Fs k → k < w1.heap.size) := I.dom H1.out.slots
    have HG1 : Hid (g < w1.heap.size) := H1.out.raw.glt
    clear hal2 hx2
    unfold nodA
    go_upto_region 4 with fail
    unfold nodA at HX2 H2 HB2
    generalize w1.alloc _ = w2 at HX2 H2 HB2 ⊢
    obtain ⟨p, hp⟩ : ∃ p, w1.heap.size = p := ⟨_, rfl⟩
    rw [hp] at HX2 HF1 HG1 ⊢
    clear hp
    obtain ⟨c0, c1, c2⟩ := H2.out.cells
    go_wp2_with fail
    refine (I.alloc _ _ _ _ H2.out.slots).mono ?_
    rintro e w3 ⟨Fs', ha3, hfull, htake⟩
    have HX3 := Lib.hid ((ha3.block p (Array.getElem?_eq_some_iff.1 HX2.out).1 (fun hf => by have := HF1.out p hf; omega)).trans HX2.out)
    clear c0 c1 c2
    rcases (show A.σ.free = [] ∨ ∃ i t, A.σ.free = i :: t by cases A.σ.free with | nil => exact .inl rfl | cons i t => exact .inr ⟨i, t, rfl⟩) with hf | ⟨i, t, hf⟩
    · obtain ⟨rfl, h3⟩ := hfull hf
      obtain ⟨h4, ha4⟩ := H2.out.raw.step ha3 h3 rfl
      have H4 := Lib.hid (h4.lie rfl rfl H2.out.off H2.out.fit)
      have HA4 := Lib.hid ((Alters.of_below HB2.out).trans ha4)
      have HF := Lib.hid hf
      clear hfull htake ha3 h3 h4 ha4 hf
      go_wp2_with fail
      go_ret2
      exact ⟨Fs', HA4.out, fun h => absurd HOK.out h, fun _ _ => ⟨rfl, H4.out⟩, fun _ i t h => by rw [HF.out] at h; cases h⟩
    · obtain ⟨rfl, h3⟩ := htake i t hf
      have him := (H2.out.ok.free i).1 (by rw [hf]; simp)
      have hcap := H2.out.ok.cap2
      obtain ⟨j, rfl⟩ : ∃ j, i = j + 1 := ⟨i - 1, by omega⟩
      obtain ⟨h4, ha4⟩ := H2.out.raw.step ha3 h3 rfl
      have H4 := Lib.hid h4
      have HA4 := Lib.hid ((Alters.of_below HB2.out).trans ha4)
      have HF := Lib.hid hf
      have HIM := Lib.hid him
      have hji : (j : Int) < (A.σ.cap : Int) := by omega
      have hj0 : (0 : Int) ≤ (j : Int) := by omega
      have hj4 : (j : Int) + 1 < 4294967296 := by omega
      have hjc : j < A.σ.cap := by omega
      have hce : (A.σ.take (j + 1) t).cap = A.σ.cap := rfl
      obtain ⟨c0, c1, c2⟩ := h4.cells
      rw [hce] at c1
      obtain ⟨x0, x1, x2, x3, x4, x5, x6, x7⟩ := row8v (x := A.node key val l r) HX3.out
      have hn1 : ¬ g = p := by have := HG1.out; omega
      have hn2 : ¬ p = g := by have := HG1.out; omega
      have hcel : ∀ k, k < 9 → ∃ v, w3.cell? ⟨g, j * 9 + k, none⟩ = some v := fun k hk => by
        rw [h4.cels.cellAt (j * 9 + k) (by rw [hce]; omega), List.getElem?_eq_getElem (by rw [cels_len]; omega)]
        exact ⟨_, rfl⟩
      obtain ⟨u0, k0⟩ := hcel 0 (by decide)
      obtain ⟨u1, k1⟩ := hcel 1 (by decide)
      obtain ⟨u2, k2⟩ := hcel 2 (by decide)
      obtain ⟨u3, k3⟩ := hcel 3 (by decide)
      obtain ⟨u4, k4⟩ := hcel 4 (by decide)
      obtain ⟨u5, k5⟩ := hcel 5 (by decide)
      obtain ⟨u6, k6⟩ := hcel 6 (by decide)
      obtain ⟨u7, k7⟩ := hcel 7 (by decide)
      obtain ⟨u8, k8⟩ := hcel 8 (by decide)
      rw [Nat.add_zero] at k0
      have f0 := h4.cels.frozenAt (j * 9)
      have f1 := h4.cels.frozenAt (j * 9 + 1)
      have f2 := h4.cels.frozenAt (j * 9 + 2)
      have f3 := h4.cels.frozenAt (j * 9 + 3)
      have f4 := h4.cels.frozenAt (j * 9 + 4)
      have f5 := h4.cels.frozenAt (j * 9 + 5)
      have f6 := h4.cels.frozenAt (j * 9 + 6)
      have f7 := h4.cels.frozenAt (j * 9 + 7)
      have f8 := h4.cels.frozenAt (j * 9 + 8)
      clear hfull htake ha3 h3 h4 ha4 hf him hcap hcel hce hjc
      go_upto_region 7 with fail
      go_region
      rw [sets9]
      have hne : ∀ y, A.Idx y → y ≠ j + 1 := fun y hy e => by
        rcases hy with hy | hy
        · omega
        · rw [e, HIM.out.2.2] at hy; cases hy
      obtain ⟨h5, ha5⟩ := RawA.sets (ndV (A.node key val l r) ++ [.int .i64 1]) (j * 9) H4.out
      have hcv : celV (A.took (j + 1) t (A.node key val l r)) (j + 1) = ndV (A.node key val l r) ++ [.int .i64 1] := by
        unfold celV Ar.took
        show ndV (if j + 1 = j + 1 then _ else _) ++ [Value.int IntKind.i64 (if j + 1 = j + 1 then _ else _)] = _
        rw [if_pos rfl, if_pos rfl]
      have h6 := h5.lie (A := A.took (j + 1) t (A.node key val l r)) rfl (by
        rw [← hcv]
        exact cels_patch A _ rfl (by have := HIM.out; omega) (fun i hi => if_neg hi) (fun i hi => if_neg hi)) (fun i hi => by
          have hi' : (A.σ.take (j + 1) t).on i = false := hi
          have hne2 : i ≠ j + 1 := fun e => by rw [e, take_same] at hi'; cases hi'
          rw [take_other _ _ hne2] at hi'
          show (if i = j + 1 then (1 : Int) else A.cnt i) = 0 ∧ (if i = j + 1 then _ else A.nd i) = _
          rw [if_neg hne2, if_neg hne2]
          exact H2.out.off i hi') (fun i => by
          show 0 ≤ (if i = j + 1 then (1 : Int) else A.cnt i) ∧ (if i = j + 1 then (1 : Int) else A.cnt i) ≤ 9223372036854775807
          split
          · exact ⟨by decide, by decide⟩
          · exact H2.out.fit i)
      have hbd : Below (w3.setCells g (j * 9) (ndV (A.node key val l r) ++ [.int .i64 1])).heap.size (w3.setCells g (j * 9) (ndV (A.node key val l r) ++ [.int .i64 1])) (w3.setCells g (j * 9) (ndV (A.node key val l r) ++ [.int .i64 1])).drew := (Below.refl _ _).drew
      have H7 := Lib.hid (h6.below hbd)
      have HA7 := Lib.hid (HA4.out.trans (ha5.trans (.of_below hbd)))
      have HNE := Lib.hid hne
      have hid1 : ∀ y, A.Idx y → (A.took (j + 1) t (A.node key val l r)).Idx y := fun y hy => by
        rcases hy with e | e
        · exact .inl e
        · exact .inr (by show (A.σ.take (j + 1) t).on y = true; rw [take_other _ _ (HNE.out y (.inr e))]; exact e)
      have hbn1 : ∀ y, (A.took (j + 1) t (A.node key val l r)).σ.on y = true → 1 ≤ (A.took (j + 1) t (A.node key val l r)).cnt y ∧ (A.took (j + 1) t (A.node key val l r)).cnt y ≤ 1179648 := fun y hy => by
        show 1 ≤ (if y = j + 1 then (1 : Int) else A.cnt y) ∧ (if y = j + 1 then (1 : Int) else A.cnt y) ≤ 1179648
        split
        · exact ⟨Int.le_refl 1, by decide⟩
        · exact HCNT.out y (take_is hy (by assumption))
      have HID1 := Lib.hid hid1
      have HBN1 := Lib.hid hbn1
      rw [show [Value.int .i64 (A.node key val l r).key, .int .i64 (A.node key val l r).val, .int .u32 ((A.node key val l r).left : Int), .int .u32 ((A.node key val l r).right : Int), .int .i64 (A.node key val l r).size, .int .i64 (A.node key val l r).sum, .int .i64 (A.node key val l r).mn, .int .i64 (A.node key val l r).mx, .int .i64 1] = ndV (A.node key val l r) ++ [.int .i64 1] from rfl]
      clear h5 ha5 hcv h6 hbd hne hid1 hbn1 c0 c1 c2 x0 x1 x2 x3 x4 x5 x6 x7 k0 k1 k2 k3 k4 k5 k6 k7 k8 f0 f1 f2 f3 f4 f5 f6 f7 f8
      generalize (w3.setCells g (j * 9) (ndV (A.node key val l r) ++ [.int .i64 1])).drew = w5 at H7 HA7 ⊢
      go_wp2_with fail
      refine (a_addRefI H7.out l (HID1.out l HOK.out.1) (fun h => by have := HBN1.out l h; omega)).mono ?_
      rintro e w6 ⟨⟨v6, rfl⟩, h8, ha8⟩
      have H8 := Lib.hid h8
      have HA8 := Lib.hid (HA7.out.trans ha8)
      clear h8 ha8
      have hbn2 : ∀ y, ((A.took (j + 1) t (A.node key val l r)).ret l).σ.on y = true → 1 ≤ ((A.took (j + 1) t (A.node key val l r)).ret l).cnt y ∧ ((A.took (j + 1) t (A.node key val l r)).ret l).cnt y ≤ 1179649 := fun y hy => by
        rw [ret_σ] at hy
        have := HBN1.out y hy
        rw [ret_cnt]
        split <;> omega
      have HBN2 := Lib.hid hbn2
      clear hbn2
      go_wp2_with fail
      refine (a_addRefI H8.out r (by
        rcases HID1.out r HOK.out.2.1 with e | e
        · exact .inl e
        · exact .inr (by rw [ret_σ]; exact e)) (fun h => by have := HBN2.out r h; omega)).mono ?_
      rintro e w7 ⟨⟨v7, rfl⟩, h9, ha9⟩
      rw [made_took A t key val (HNE.out l HOK.out.1) (HNE.out r HOK.out.2.1) (by omega)] at h9
      have H9 := Lib.hid h9
      have HA9 := Lib.hid (HA8.out.trans ha9)
      clear h9 ha9
      go_wp2_with fail
      go_ret2
      refine ⟨Fs', HA9.out, fun h => absurd HOK.out h, fun _ h => (by rw [HF.out] at h; cases h), fun _ i' t' h => ?_⟩
      rw [HF.out] at h
      simp only [List.cons.injEq] at h
      obtain ⟨rfl, rfl⟩ := h
      exact ⟨rfl, H9.out⟩
  · have HNO := Lib.hid hno
    clear hno
    have hal2 := below_al w1 (Obj.cells (nodA Nd.zero) 40)
    have H2 := Lib.hid (H1.out.below hal2)
    have HB2 := Lib.hid (trans_of' HB1.out hal2)
    clear hal2
    unfold nodA
    go_wp2_with fail
    unfold nodA at H2 HB2
    go_ret2
    exact ⟨Fs, .of_below HB2.out, fun _ => ⟨rfl, H2.out⟩, fun h => absurd h HNO.out, fun h => absurd h HNO.out⟩
end
end Go.Proofs.Ytkhfofpbmnapjaa
set_option linter.unusedVariables false
namespace Go.Proofs.Ytkhfofpbmnapjaa
open Go.RowKit
section
variable {I : Impl} {w w' : World} {ab : Nat} {sp : Addr} {A A' : Ar} {rd : Int} {ca : Option Addr} {cc g : Nat} {Fs Fs' : Nat → Prop}
def ARem (I : Impl) (w : World) (ab : Nat) (sp : Addr) (A : Ar) (rd : Int) (g cc : Nat) (Fs : Nat → Prop) (i : Nat) (e : Ending) (w' : World) : Prop :=
  ∃ Fs', Alters (FootA ab (some ⟨g, 0, none⟩) Fs) (FootA ab (some ⟨g, 0, none⟩) Fs') w w' ∧
    (A.σ.on i = false → e = .returned (.tuple #[.agg (nodA Nd.zero), .bool false]) ∧ LieA I w' ab sp A rd (some ⟨g, 0, none⟩) cc Fs') ∧
    (A.σ.on i = true → A.cnt i ≠ 1 → e = .returned (.tuple #[.agg (nodA Nd.zero), .bool false]) ∧ LieA I w' ab sp (A.dec i) rd (some ⟨g, 0, none⟩) cc Fs') ∧
    (A.σ.on i = true → A.cnt i = 1 → e = .returned (.tuple #[.agg (nodA (A.nd i)), .bool true]) ∧ LieA I w' ab sp (A.drop i) rd (some ⟨g, 0, none⟩) cc Fs')
set_option maxHeartbeats 4000000 in
set_option maxRecDepth 100000 in
theorem a_remove (h : LieA I w ab sp A rd (some ⟨g, 0, none⟩) cc Fs) (i : Nat) (hi : i < 4294967296) (hp1 : A.σ.on i = true → 1 ≤ A.cnt i) :
    Calls Try.prog 58 #[.pointer (some ⟨ab, 0, none⟩), .int .u32 (i : Int)] w (ARem I w ab sp A rd g cc Fs i) := by
  have HU : Hid _ := Lib.hid Try.underlying40
  have HIN := Lib.hid nodInfo
  have hb1 := below_al w (Obj.cells (nodA Nd.zero) 40)
  have HP := Lib.hid (heap_alloc_new w (Obj.cells (nodA Nd.zero) 40))
  have HB1 := Lib.hid hb1
  have HOK := Lib.hid h.ok
  have HOFF := Lib.hid h.off
  have HFIT := Lib.hid h.fit
  have HDOM : Hid (∀ k, FootA ab (some ⟨g, 0, none⟩) Fs k → k < w.heap.size) := h.dom
  have H2 := Lib.hid (h.below hb1)
  have HPOS := Lib.hid hp1
  clear h hb1 hp1
  go_enter Try.func58, Try.ntmps58
  go_upto_region 1 with fail
  rw [show #[Value.int .i64 0, .int .i64 0, .int .u32 0, .int .u32 0, .int .i64 0, .int .i64 0, .int .i64 0, .int .i64 0] = nodA Nd.zero from rfl]
  generalize w.alloc (Obj.cells (nodA Nd.zero) 40) = w1 at HP HB1 H2 ⊢
  obtain ⟨p, hp⟩ : ∃ p, w.heap.size = p := ⟨_, rfl⟩
  rw [hp] at HP HDOM ⊢
  have HPP := Lib.hid hp
  clear hp
  by_cases ho : A.σ.on i = true
  · have hle := HOK.out.on i ho
    have hcap := HOK.out.cap2
    have hpos := HPOS.out ho
    obtain ⟨j, rfl⟩ : ∃ j, i = j + 1 := ⟨i - 1, by omega⟩
    have hj : j < A.σ.cap := by omega
    have HO := Lib.hid ho
    have HJ := Lib.hid hj
    have hj4 : (j : Int) + 1 < 4294967296 := by omega
    clear ho hle hj hi hcap
    go_wp2_with fail
    refine (a_cell_on H2.out j HO.out).mono ?_
    rintro e w2 ⟨rfl, q2, rfl⟩
    have hb2 : Below w1.heap.size w1 (w1.drewN q2) := below_drewN (Below.refl _ _) q2
    generalize w1.drewN q2 = w2 at hb2 ⊢
    have HP2 := Lib.hid (keep_blk HP.out hb2)
    have h3 := H2.out.below hb2
    have HBB := Lib.hid (trans_of' HB1.out hb2)
    clear hb2
    obtain ⟨_, _, _, _, _, _, _, _, c8⟩ := h3.nine HJ.out
    have f8 := h3.cels.frozenAt (j * 9 + 8)
    obtain ⟨C, hC⟩ : ∃ C, A.cnt (j + 1) = C := ⟨_, rfl⟩
    have hfit := HFIT.out (j + 1)
    rw [hC] at c8 hpos hfit
    obtain ⟨h4, ha4⟩ := h3.putC HO.out (C - 1) (by omega)
    have hP4 : (w2.setCell ⟨g, j * 9 + 8, none⟩ (.int .i64 (C - 1))).heap[p]? = some (Obj.cells (nodA Nd.zero) 40 (0, 0)) := (heap_setCell_other _ _ _ _ (show p ≠ g by have := HDOM.out g (.inr (.inl ⟨_, rfl, rfl⟩)); omega)).trans HP2.out
    have HC := Lib.hid hC
    have H4 := Lib.hid h4
    have HP4 := Lib.hid hP4
    have HA4 := Lib.hid ((Alters.of_below HBB.out).trans ha4)
    have hfit2 := hfit.2
    clear h3 h4 ha4 hP4 hC hfit
    go_upto_region 5 with fail
    have HPC := Lib.hid hpos
    clear c8 f8 hpos hfit2
    generalize w2.setCell ⟨g, j * 9 + 8, none⟩ (.int .i64 (C - 1)) = w3 at H4 HP4 HA4 ⊢
    obtain ⟨g0, g1, g2, g3, g4, g5, g6, g7, g8⟩ := H4.out.nine HJ.out
    rw [show (A.putC (j + 1) (C - 1)).cnt (j + 1) = C - 1 from if_pos rfl] at g8
    rw [show (A.putC (j + 1) (C - 1)).nd (j + 1) = A.nd (j + 1) from rfl] at g0 g1 g2 g3 g4 g5 g6 g7
    obtain ⟨D, hD⟩ : ∃ D, C - 1 = D := ⟨_, rfl⟩
    rw [hD] at g8 H4
    have HD := Lib.hid hD
    clear hD
    by_cases hc1 : C = 1
    · obtain rfl : D = 0 := by have := HD.out; omega
      have HC1 := Lib.hid hc1
      clear hc1
      have hal4 := below_al w3 (Obj.cells (nodA (A.nd (j + 1))) 40)
      have hx4 := heap_alloc_new w3 (Obj.cells (nodA (A.nd (j + 1))) 40)
      have H5 := Lib.hid (H4.out.below hal4)
      have HP5 := Lib.hid (keep_blk HP4.out hal4)
      have HA5 := Lib.hid (HA4.out.trans (.of_below hal4))
      have HX5 := Lib.hid hx4
      have HPL : Hid (p < w3.heap.size) := (Array.getElem?_eq_some_iff.1 HP4.out).1
      clear hal4 hx4
      go_upto_region 8 with fail
      rw [show #[Value.int .i64 (A.nd (j + 1)).key, .int .i64 (A.nd (j + 1)).val, .int .u32 ((A.nd (j + 1)).left : Int), .int .u32 ((A.nd (j + 1)).right : Int), .int .i64 (A.nd (j + 1)).size, .int .i64 (A.nd (j + 1)).sum, .int .i64 (A.nd (j + 1)).mn, .int .i64 (A.nd (j + 1)).mx] = nodA (A.nd (j + 1)) from rfl]
      clear g0 g1 g2 g3 g4 g5 g6 g7 g8
      generalize w3.alloc (Obj.cells (nodA (A.nd (j + 1))) 40) = w4 at H5 HP5 HA5 HX5 ⊢
      obtain ⟨p7, hp7⟩ : ∃ p7, w3.heap.size = p7 := ⟨_, rfl⟩
      rw [hp7] at HX5 HPL ⊢
      clear hp7
      obtain ⟨g0, g1, g2, g3, g4, g5, g6, g7, g8⟩ := H5.out.nine HJ.out
      have f0 := H5.out.cels.frozenAt (j * 9)
      have f1 := H5.out.cels.frozenAt (j * 9 + 1)
      have f2 := H5.out.cels.frozenAt (j * 9 + 2)
      have f3 := H5.out.cels.frozenAt (j * 9 + 3)
      have f4 := H5.out.cels.frozenAt (j * 9 + 4)
      have f5 := H5.out.cels.frozenAt (j * 9 + 5)
      have f6 := H5.out.cels.frozenAt (j * 9 + 6)
      have f7 := H5.out.cels.frozenAt (j * 9 + 7)
      have f8 := H5.out.cels.frozenAt (j * 9 + 8)
      obtain ⟨h6, ha6⟩ := RawA.sets [.int .i64 0, .int .i64 0, .int .u32 0, .int .u32 0, .int .i64 0, .int .i64 0, .int .i64 0, .int .i64 0, .int .i64 0] (j * 9) H5.out.raw
      have hcv : celV (A.drop (j + 1)) (j + 1) = [.int .i64 0, .int .i64 0, .int .u32 0, .int .u32 0, .int .i64 0, .int .i64 0, .int .i64 0, .int .i64 0, .int .i64 0] := by
        unfold celV Ar.drop
        show ndV (if j + 1 = j + 1 then _ else _) ++ [Value.int IntKind.i64 (if j + 1 = j + 1 then _ else _)] = _
        rw [if_pos rfl, if_pos rfl]
        rfl
      rw [← hcv, cels_patch (A.putC (j + 1) 0) (A.drop (j + 1)) rfl HJ.out (fun i hi => if_neg hi) (fun i hi => by show (if i = j + 1 then (0 : Int) else A.cnt i) = (if i = j + 1 then (0 : Int) else A.cnt i); rfl), hcv] at h6
      have hP6 := (ha6.block p (Array.getElem?_eq_some_iff.1 HP5.out).1 (fun hf => by have := HDOM.out p hf; omega)).trans HP5.out
      have hX6 := (ha6.block p7 (Array.getElem?_eq_some_iff.1 HX5.out).1 (fun hf => by have := HDOM.out p7 hf; have := HPL.out; omega)).trans HX5.out
      have H6 := Lib.hid h6
      have HA6 := Lib.hid (HA5.out.trans ha6)
      have HP6 := Lib.hid hP6
      have HX6 := Lib.hid hX6
      clear h6 ha6 hcv hP6 hX6
      go_upto_region 9 with fail
      rw [sets9]
      clear g0 g1 g2 g3 g4 g5 g6 g7 g8 f0 f1 f2 f3 f4 f5 f6 f7 f8
      generalize w4.setCells g (j * 9) _ = w5 at H6 HA6 HP6 HX6 ⊢
      obtain ⟨c0, c1, c2⟩ := H6.out.cells
      go_wp2_with fail
      refine (I.release _ _ _ (j + 1) _ H6.out.slots (by omega)).mono ?_
      rintro e w6 ⟨Fs', ha7, _, h7⟩
      obtain ⟨rfl, h8⟩ := h7 HO.out
      obtain ⟨h9, ha9⟩ := H6.out.step ha7 h8 rfl
      have hFp : ∀ k, Fs k → k < p := fun k hk => HDOM.out k (.inr (.inr hk))
      have hP7 := (ha7.block p (Array.getElem?_eq_some_iff.1 HP6.out).1 (fun hf => by have := hFp p hf; omega)).trans HP6.out
      have hX7 := (ha7.block p7 (Array.getElem?_eq_some_iff.1 HX6.out).1 (fun hf => by have := hFp p7 hf; have := HPL.out; omega)).trans HX6.out
      have HNF : Hid (¬ Fs' p) := fun hf => by
        rcases ha7.foot p hf with h1 | h1
        · have := hFp p h1; omega
        · have := (Array.getElem?_eq_some_iff.1 HP6.out).1; omega
      have h10 := h9.lie (A := A.drop (j + 1)) rfl rfl (fun i hi => by
        have hi' : (A.σ.put (j + 1)).on i = false := hi
        show (if i = j + 1 then (0 : Int) else A.cnt i) = 0 ∧ (if i = j + 1 then Nd.zero else A.nd i) = Nd.zero
        by_cases e : i = j + 1
        · rw [if_pos e, if_pos e]; exact ⟨rfl, rfl⟩
        · rw [if_neg e, if_neg e]
          rw [put_other _ e] at hi'
          exact HOFF.out i hi') (fun i => by
        show 0 ≤ (if i = j + 1 then (0 : Int) else A.cnt i) ∧ (if i = j + 1 then (0 : Int) else A.cnt i) ≤ 9223372036854775807
        split
        · exact ⟨by decide, by decide⟩
        · exact HFIT.out i)
      have H10 := Lib.hid h10
      have HA10 := Lib.hid (HA6.out.trans ha9)
      have HP7 := Lib.hid hP7
      have HX7 := Lib.hid hX7
      clear c0 c1 c2 ha7 h7 h8 h9 ha9 hFp hP7 hX7 h10
      obtain ⟨z0, z1, z2, z3, z4, z5, z6, z7⟩ := row8v HX7.out
      go_wp2_with (refine wpList_store_row rfl 40 (.tmp 4) (.tmp 40) rfl p (nodA (A.nd (j + 1))) rfl rfl 40 _ HP7.out HIN.out rfl (nod_ones _) ?_)
      refine bodyPost_ret (results_row_tmp rfl _ _ p 40 (nodA (A.nd (j + 1))) (0, 0) _ rfl (setRow_heap _ _ _ _ _ _ HP7.out) HU.out rfl HIN.out) rfl ?_
      have hpp := HPP.out
      refine ⟨Fs', alt_row HA10.out (by omega), fun h => (by rw [HO.out] at h; cases h), fun _ h => absurd (HC.out.trans HC1.out) h, fun _ _ => ⟨rfl, ?_⟩⟩
      refine H10.out.keep fun k hk => setRow_other _ _ _ _ fun e => ?_
      subst e
      rcases hk with hk | hk | hk
      · have := HDOM.out k (.inl hk); omega
      · have := HDOM.out k (.inr (.inl hk)); omega
      · exact HNF.out hk
    · have hgt : (0 : Int) < D := by have := HD.out; have := HPC.out; omega
      have HC1 := Lib.hid hc1
      clear hc1
      go_wp2_with (refine wpList_store_row rfl 40 (.tmp 4) (.tmp 26) rfl p (nodA Nd.zero) rfl rfl 40 _ HP4.out HIN.out rfl (nod_ones _) ?_)
      refine bodyPost_ret (results_row_tmp rfl _ _ p 40 (nodA Nd.zero) (0, 0) _ rfl (setRow_heap _ _ _ _ _ _ HP4.out) HU.out rfl HIN.out) rfl ?_
      have hpp := HPP.out
      refine ⟨Fs, alt_row HA4.out (by omega), fun h => (by rw [HO.out] at h; cases h), fun _ _ => ⟨rfl, ?_⟩, fun _ h => absurd (HC.out.symm.trans h) HC1.out⟩
      have e : A.dec (j + 1) = A.putC (j + 1) D := by unfold Ar.dec Ar.putC; rw [HC.out, HD.out]
      rw [e]
      exact H4.out.keep fun k hk => setRow_other _ _ _ _ (by have := HDOM.out k hk; omega)
  · have ho' : A.σ.on i = false := by simpa using ho
    have HO := Lib.hid ho'
    clear ho ho'
    go_wp2_with fail
    refine (a_cell_off H2.out i hi HO.out).mono ?_
    rintro e w2 ⟨rfl, q2, rfl⟩
    have hb2 : Below w1.heap.size w1 (w1.drewN q2) := below_drewN (Below.refl _ _) q2
    generalize w1.drewN q2 = w2 at hb2 ⊢
    have HP2 := Lib.hid (keep_blk HP.out hb2)
    have H3 := Lib.hid (H2.out.below hb2)
    have HBB := Lib.hid (trans_of' HB1.out hb2)
    clear hb2
    go_wp2_with (refine wpList_store_row rfl 40 (.tmp 4) (.tmp 13) rfl p (nodA Nd.zero) rfl rfl 40 _ HP2.out HIN.out rfl (nod_ones _) ?_)
    refine bodyPost_ret (results_row_tmp rfl _ _ p 40 (nodA Nd.zero) (0, 0) _ rfl (setRow_heap _ _ _ _ _ _ HP2.out) HU.out rfl HIN.out) rfl ?_
    have hpp := HPP.out
    exact ⟨Fs, alt_row (Alters.of_below HBB.out) (by omega), fun _ => ⟨rfl, H3.out.keep fun k hk => setRow_other _ _ _ _ (by have := HDOM.out k hk; omega)⟩, fun h => (by rw [HO.out] at h; cases h), fun h => (by rw [HO.out] at h; cases h)⟩
end
end Go.Proofs.Ytkhfofpbmnapjaa
