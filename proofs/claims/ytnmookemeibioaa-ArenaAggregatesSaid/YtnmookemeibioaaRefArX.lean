/- The reference's arena: index, Counted, Retain, Node, Size, at, Edges. -/
import Derived.Test.YtnmookemeibioaaRefDump0
import Derived.Deep.QuietTactic
set_option linter.unusedVariables false
namespace Go.Proofs.Ytnmookemeibioaa
open Go.RowKit

/-- the blocks that the reference's arena occupies -/
def FR (q : Nat) (r : AL) (k : Nat) : Prop := k = q ∨ (∃ x, r.na = some x ∧ x.block = k) ∨ (∃ x, r.ca = some x ∧ x.block = k) ∨ (∃ x, r.sa = some x ∧ x.block = k) ∨ (∃ x, r.ga = some x ∧ x.block = k) ∨ ∃ x, r.oa = some x ∧ x.block = k
section
variable {B q : Nat} {w w' : World} {A : Ar} {rd : Int} {r : AL}
theorem RefAr.five (h : RefAr B w q A rd r) : w.cell? ⟨q, 0, none⟩ = some (.int .i64 (A.σ.cap : Int)) ∧ w.cell? ⟨q, 1, none⟩ = some (.slice r.sa r.st.length r.sc) ∧ w.cell? ⟨q, 2, none⟩ = some (.int .i64 (r.fr : Int)) ∧ w.cell? ⟨q, 3, none⟩ = some (.slice r.ga A.σ.cap r.gc) ∧ w.cell? ⟨q, 4, none⟩ = some (.slice r.oa A.σ.cap r.oc) := by
  have hx := h.box
  unfold arV at hx
  obtain ⟨c0, c1, c2, c3, c4, _⟩ := row8 hx
  exact ⟨c0, c1, c2, c3, c4⟩
set_option maxHeartbeats 1000000 in
set_option maxRecDepth 100000 in
theorem rar_index (h : RefAr B w q A rd r) (hok : A.σ.Ok) (i : Nat) (hi : i < 4294967296) :
    Calls Try.prog 51 #[.pointer (some ⟨q, 0, none⟩), .int .u32 (i : Int)] w (Calm w (.bool (decide (i = 0) || A.σ.on i))) := by
  obtain ⟨c0, c1, c2, c3, c4⟩ := h.five
  by_cases h0 : i = 0
  · subst h0
    clear h
    rw [show (decide (0 = 0) || A.σ.on 0) = true by simp]
    go_enter Try.func51, Try.ntmps51
    go_wp2
    go_ret
    exact ⟨rfl, Below.refl _ _⟩
  · have hi0 : ((i : Int) == 0) = false := beq_eq_false_iff_ne.2 (by omega)
    have hon := ref_on h.slots hok i hi
    unfold refV at hon
    have HON := Lib.hid hon
    rw [show (decide (i = 0) || A.σ.on i) = A.σ.on i by simp [h0]]
    clear h hon h0
    go_enter Try.func51, Try.ntmps51
    go_wp2_with fail
    refine HON.out.mono ?_
    rintro e w2 ⟨rfl, hb⟩
    have HB := Lib.hid hb
    clear hb c0 c1 c2 c3 c4
    go_wp2_with fail
    go_ret
    exact ⟨rfl, HB.out⟩
set_option maxHeartbeats 1000000 in
set_option maxRecDepth 100000 in
theorem rar_counted (h : RefAr B w q A rd r) (hok : A.σ.Ok) (hoff : ∀ i, A.σ.on i = false → A.cnt i = 0) (i : Nat) (hi : i < 4294967296) :
    Calls Try.prog 23 #[.pointer (some ⟨q, 0, none⟩), .int .u32 (i : Int)] w (Calm w (.int .i64 (A.cnt i))) := by
  obtain ⟨c0, c1, c2, c3, c4⟩ := h.five
  have hon := ref_on h.slots hok i hi
  unfold refV at hon
  have HON := Lib.hid hon
  have HH := Lib.hid h
  have HOK := Lib.hid hok
  have HOFF := Lib.hid hoff
  clear h hon hok hoff
  go_enter Try.func23, Try.ntmps23
  go_wp2_with fail
  refine HON.out.mono ?_
  rintro e w2 ⟨rfl, hb⟩
  have HB := Lib.hid hb
  have h2 := HH.out.below hb
  clear hb c0 c1 c2 c3 c4
  by_cases ho : A.σ.on i = true
  · have hle := HOK.out.on i ho
    obtain ⟨j, rfl⟩ : ∃ j, i = j + 1 := ⟨i - 1, by omega⟩
    have hj : j < A.σ.cap := by omega
    have hji : (j : Int) < (A.σ.cap : Int) := by omega
    have hj0 : (0 : Int) ≤ (j : Int) := by omega
    have hx := h2.box
    unfold arV at hx
    obtain ⟨_, _, _, _, _, _, c6, _⟩ := row8 hx
    obtain ⟨gc, hg, _, hcc⟩ := row_cell h2.cnts hj
    rw [hg] at c6
    have hc := hcc.trans (cntsV_at A hj)
    rw [ho]
    clear ho hle hx hcc h2 hg
    generalize hC : A.cnt (j + 1) = C at hc
    have HCC := Lib.hid hC
    clear hC
    go_wp2_with fail
    go_ret
    exact ⟨by rw [HCC.out]; rfl, HB.out⟩
  · have ho' : A.σ.on i = false := by simpa using ho
    have hz := HOFF.out i ho'
    rw [ho']
    have HZ := Lib.hid hz
    clear ho ho' hz h2
    go_wp2_with fail
    go_ret
    exact ⟨by rw [HZ.out]; rfl, HB.out⟩
end
end Go.Proofs.Ytnmookemeibioaa
set_option linter.unusedVariables false
namespace Go.Proofs.Ytnmookemeibioaa
open Go.RowKit
section
variable {B q : Nat} {w w' : World} {A : Ar} {rd : Int} {r : AL}
theorem alters_trans {F F1 F2 : Nat → Prop} {w w1 w2 : World} (h : Alters F F1 w w1) (h2 : Alters F1 F2 w1 w2) : Alters F F2 w w2 := by
  refine ⟨h2.os.trans h.os, h2.tape.trans h.tape, h2.output.trans h.output, Nat.le_trans h.size h2.size, fun k hk hf => ?_, fun k hk => ?_⟩
  · rw [h2.block k (Nat.lt_of_lt_of_le hk h.size) fun h1 => ?_, h.block k hk hf]
    rcases h.foot k h1 with h3 | h3
    · exact hf h3
    · omega
  · rcases h2.foot k hk with h1 | h1
    · exact h.foot k h1
    · exact .inr (Nat.le_trans h.size h1)
theorem alters_cell {F : Nat → Prop} {w : World} {p : Addr} {v : Value} (h : F p.block) : Alters F F w (w.setCell p v) :=
  ⟨rfl, rfl, rfl, by simp [World.setCell], fun k _ hk => heap_setCell_other _ _ _ _ (fun e => hk (by rw [e]; exact h)), fun k hk => .inl hk⟩
def Ar.setC (A : Ar) (i : Nat) (x : Int) : Ar := ⟨A.σ, A.nd, fun j => if j = i then x else A.cnt j⟩
theorem cntsV_set (A : Ar) {j : Nat} (x : Int) (hj : j < A.σ.cap) : (cntsV A).set j (.int .i64 x) = cntsV (A.setC (j + 1) x) := by
  apply List.ext_getElem?
  intro k
  rw [List.getElem?_set]
  unfold cntsV Ar.setC
  by_cases hk : k < A.σ.cap
  · by_cases e : j = k
    · subst e; simp [hk]
    · have e2 : ¬ k = j := fun h => e h.symm
      simp [hk, e, e2]
  · by_cases e : j = k
    · subst e; exact absurd hj hk
    · simp [hk, e]
theorem RefAr.setCnt {gc : Nat} (h : RefAr B w q A rd r) (hc : r.ca = some ⟨gc, 0, none⟩) {j : Nat} (hj : j < A.σ.cap) (x : Int) :
    RefAr B (w.setCell ⟨gc, j, none⟩ (.int .i64 x)) q (A.setC (j + 1) x) rd r ∧ Alters (FR q r) (FR q r) w (w.setCell ⟨gc, j, none⟩ (.int .i64 x)) := by
  have hrow := h.cnts
  rw [hc] at hrow
  obtain ⟨h1, h2⟩ := hrow.stored j (.int .i64 x)
  rw [cntsV_set A x hj] at h1
  have hg : w.grownBy (w.setCell ⟨gc, j, none⟩ (.int .i64 x)) (Value.slice (some ⟨gc, 0, none⟩) A.σ.cap r.cc).ownBlock := h2
  have hqc : q ≠ gc := fun e => by
    rcases hrow.2 with ⟨hv, _⟩ | ⟨g2, cap2, cur2, hv, _, hc2, _⟩
    · simp at hv
    · simp only [Value.slice.injEq, Option.some.injEq, Addr.mk.injEq] at hv
      rw [← hv.1.1, ← e, h.box] at hc2
      simp at hc2
  refine ⟨⟨(heap_setCell_other _ _ _ _ (show q ≠ gc from hqc)).trans h.box, ⟨h.slots.free, h.slots.fr1, h.slots.fr2, row_apart (by decide) h.slots.stack hrow hg, row_apart (by decide) h.slots.gen hrow hg, row_apart (by decide) h.slots.on hrow hg, h.slots.inS, h.slots.inG, h.slots.inO⟩, row_apart (by decide) h.nodes hrow hg, by rw [hc]; exact h1, h.hq⟩, alters_cell (.inr (.inr (.inl ⟨_, hc, rfl⟩)))⟩
theorem RefAr.setReads (h : RefAr B w q A rd r) (x : Int) :
    RefAr B (w.setCell ⟨q, 7, none⟩ (.int .u64 x)) q A x r ∧ Alters (FR q r) (FR q r) w (w.setCell ⟨q, 7, none⟩ (.int .u64 x)) := by
  have key : ∀ {Bx s n : Nat} {e : TypeId} {v : Value} {xs : List Value}, e ≠ 60 → w.ownsRow Bx e s v n xs → (w.setCell ⟨q, 7, none⟩ (.int .u64 x)).ownsRow Bx e s v n xs := fun {Bx s n e v xs} hne hr => row_keep hr fun k hk => heap_setCell_other _ _ _ _ (show k ≠ q from fun e2 => by
    rcases hr.2 with ⟨rfl, _⟩ | ⟨g2, cap2, cur2, rfl, _, hc2, _⟩
    · simp [Value.ownBlock] at hk
    · simp only [Value.ownBlock, Option.some.injEq] at hk
      rw [hk, e2, h.box] at hc2
      simp at hc2
      exact hne hc2.2.symm)
  refine ⟨⟨?_, ⟨h.slots.free, h.slots.fr1, h.slots.fr2, key (by decide) h.slots.stack, key (by decide) h.slots.gen, key (by decide) h.slots.on, h.slots.inS, h.slots.inG, h.slots.inO⟩, key (by decide) h.nodes, key (by decide) h.cnts, h.hq⟩, alters_cell (.inl rfl)⟩
  rw [heap_setCell_same _ _ _ _ _ _ h.box]
  rfl
set_option maxHeartbeats 1000000 in
set_option maxRecDepth 100000 in
theorem rar_retain_bad (h : RefAr B w q A rd r) (hok : A.σ.Ok) (i : Nat) (hi : i < 4294967296) (hb : ¬ A.Idx i) :
    Calls Try.prog 22 #[.pointer (some ⟨q, 0, none⟩), .int .u32 (i : Int)] w (Calm w (.int .i64 3)) := by
  have hx : (decide (i = 0) || A.σ.on i) = false := by
    unfold Ar.Idx at hb
    have h1 : ¬ i = 0 := fun e => hb (.inl e)
    have h2 : ¬ A.σ.on i = true := fun e => hb (.inr e)
    simp [h1, h2]
  have HI := Lib.hid (rar_index h hok i hi)
  have HX := Lib.hid hx
  clear h hok hb hx
  go_enter Try.func22, Try.ntmps22
  go_wp2_with fail
  refine HI.out.mono ?_
  rintro e w2 ⟨rfl, hb⟩
  rw [HX.out]
  have HB := Lib.hid hb
  clear hb
  go_wp2_with fail
  go_ret
  exact ⟨rfl, HB.out⟩
set_option maxHeartbeats 1000000 in
set_option maxRecDepth 100000 in
theorem rar_retain (h : RefAr B w q A rd r) (hok : A.σ.Ok) (i : Nat) (hi : i < 4294967296) (hb : A.Idx i) (hc : A.cnt i < 4611686018427387904) (hc0 : -4611686018427387904 < A.cnt i) :
    Calls Try.prog 22 #[.pointer (some ⟨q, 0, none⟩), .int .u32 (i : Int)] w (fun e w' => e = .returned (.int .i64 0) ∧ RefAr B w' q (A.ret i) rd r ∧ Alters (FR q r) (FR q r) w w') := by
  have hx : (decide (i = 0) || A.σ.on i) = true := by
    rcases hb with e | e
    · simp [e]
    · simp [e]
  have HI := Lib.hid (rar_index h hok i hi)
  have HX := Lib.hid hx
  have HH := Lib.hid h
  clear h hx
  by_cases h0 : i = 0
  · subst h0
    clear hc hc0 hok hb
    go_enter Try.func22, Try.ntmps22
    go_wp2_with fail
    refine HI.out.mono ?_
    rintro e w2 ⟨rfl, hb2⟩
    rw [HX.out]
    have HB := Lib.hid hb2
    clear hb2
    go_wp2_with fail
    go_ret
    exact ⟨rfl, by unfold Ar.ret; rw [if_pos rfl]; exact HH.out.below HB.out, .of_below HB.out⟩
  · have hon : A.σ.on i = true := by rcases hb with e | e; exact absurd e h0; exact e
    have hle := hok.on i hon
    obtain ⟨j, rfl⟩ : ∃ j, i = j + 1 := ⟨i - 1, by omega⟩
    have hj : j < A.σ.cap := by omega
    have hji : (j : Int) < (A.σ.cap : Int) := by omega
    have hj0 : (0 : Int) ≤ (j : Int) := by omega
    have hjn : (((j : Int) + 1) != 0) = true := by simp; omega
    clear hok hb hon hle h0
    go_enter Try.func22, Try.ntmps22
    go_wp2_with fail
    refine HI.out.mono ?_
    rintro e w2 ⟨rfl, hb2⟩
    rw [HX.out]
    have h2 := HH.out.below hb2
    have HB := Lib.hid hb2
    have hx := h2.box
    unfold arV at hx
    obtain ⟨_, _, _, _, _, _, c6, _⟩ := row8 hx
    obtain ⟨gc, hg, _, hcc⟩ := row_cell h2.cnts hj
    have hcell := hcc.trans (cntsV_at A hj)
    have hrow := h2.cnts
    rw [hg] at hrow c6
    have hfr := hrow.frozenAt j
    obtain ⟨h3, h4⟩ := h2.setCnt hg hj (A.cnt (j + 1) + 1)
    have H3 := Lib.hid h3
    have H4 := Lib.hid (alters_trans (Alters.of_below HB.out : Alters (FR q r) (FR q r) w w2) h4)
    clear hx hcc h2 hg hrow h3 h4 hb2 hj
    generalize hC : A.cnt (j + 1) = C at hcell hc hc0 H3 H4
    have HC := Lib.hid hC
    clear hC
    go_wp2_with fail
    go_ret
    refine ⟨rfl, ?_, H4.out⟩
    have e : A.ret (j + 1) = A.setC (j + 1) (C + 1) := by unfold Ar.ret Ar.inc Ar.setC; rw [if_neg (by omega), HC.out]
    rw [e]
    exact H3.out
end
end Go.Proofs.Ytnmookemeibioaa
set_option linter.unusedVariables false
namespace Go.Proofs.Ytnmookemeibioaa
open Go.RowKit
def ndA (x : Nd) : Array Value := #[.int .i64 x.key, .int .i64 x.val, .int .u32 (x.left : Int), .int .u32 (x.right : Int), .int .i64 x.size, .int .i64 x.sum, .int .i64 x.mn, .int .i64 x.mx]
def NodeRes (B q : Nat) (w : World) (A : Ar) (rd : Int) (r : AL) (i : Nat) (e : Ending) (w' : World) : Prop :=
  e = .returned (.tuple #[.agg (ndA (A.nd i)), .bool (A.σ.on i)]) ∧ RefAr B w' q A (if A.σ.on i = true then rd + 1 else rd) r ∧ Alters (FR q r) (FR q r) w w'
section
variable {B q : Nat} {w w' : World} {A : Ar} {rd : Int} {r : AL}
theorem nd_ones (x : Nd) : (ndA x).all (·.oneCell') = true := by simp [ndA, Value.oneCell']
theorem own_some {a : Option Addr} {n c k : Nat} (h : (Value.slice a n c).ownBlock = some k) : ∃ x, a = some x ∧ x.block = k := by
  cases a with
  | none => simp [Value.ownBlock] at h
  | some x => simp [Value.ownBlock] at h; exact ⟨x, rfl, h⟩
theorem RefAr.keepAll (h : RefAr B w q A rd r) (hk : ∀ k, FR q r k → w'.heap[k]? = w.heap[k]?) : RefAr B w' q A rd r :=
  ⟨(hk q (.inl rfl)).trans h.box, ⟨h.slots.free, h.slots.fr1, h.slots.fr2, row_keep h.slots.stack fun k e => hk k (.inr (.inr (.inr (.inl (own_some e))))), row_keep h.slots.gen fun k e => hk k (.inr (.inr (.inr (.inr (.inl (own_some e)))))), row_keep h.slots.on fun k e => hk k (.inr (.inr (.inr (.inr (.inr (own_some e)))))), h.slots.inS, h.slots.inG, h.slots.inO⟩,
    row_keep h.nodes fun k e => hk k (.inr (.inl (own_some e))), row_keep h.cnts fun k e => hk k (.inr (.inr (.inl (own_some e)))), h.hq⟩
theorem own_lt {a : Option Addr} {Bx n c s k : Nat} {e : TypeId} {xs : List Value} (h : w.ownsRow Bx e s (.slice a n c) n xs) (hk : ∃ x, a = some x ∧ x.block = k) : k < w.heap.size := by
  obtain ⟨x, rfl, rfl⟩ := hk
  exact (row_lt h _ rfl).2
theorem RefAr.frLt (h : RefAr B w q A rd r) : ∀ k, FR q r k → k < w.heap.size := fun k hk => by
  rcases hk with rfl | hk | hk | hk | hk | hk
  · exact h.lt
  · exact own_lt h.nodes hk
  · exact own_lt h.cnts hk
  · exact own_lt h.slots.stack hk
  · exact own_lt h.slots.gen hk
  · exact own_lt h.slots.on hk
theorem alters_row {F : Nat → Prop} {p : Nat} {cs : Array Value} (h : Alters F F w w') (hp : w.heap.size ≤ p) : Alters F F w (w'.setRow p cs) :=
  ⟨h.os, h.tape, h.output, by have := h.size; simp [World.setRow]; omega, fun k hk hf => (setRow_other _ _ _ _ (by omega)).trans (h.block k hk hf), h.foot⟩
set_option maxHeartbeats 2000000 in
set_option maxRecDepth 100000 in
theorem rar_node (h : RefAr B w q A rd r) (hok : A.σ.Ok) (hoff : ∀ i, A.σ.on i = false → A.nd i = Nd.zero) (i : Nat) (hi : i < 4294967296) (h0 : 0 ≤ rd) (h1 : rd < 4611686018427387904) :
    Calls Try.prog 28 #[.pointer (some ⟨q, 0, none⟩), .int .u32 (i : Int)] w (NodeRes B q w A rd r i) := by
  have HU : Hid _ := Lib.hid Try.underlying50
  have hin : (Try.prog.info? 50).map (·.size) = some 8 := by kernel_rfl
  have HIN := Lib.hid hin
  have hb1 := below_new5 w (Obj.cells (ndA Nd.zero) 50)
  have h2 := h.below hb1
  have HP := Lib.hid (heap_alloc_new w (Obj.cells (ndA Nd.zero) 50))
  have HB1 := Lib.hid hb1
  have HLQ : Hid (q < w.heap.size) := h.lt
  have HFL : Hid (∀ k, FR q r k → k < w.heap.size) := h.frLt
  have HOK := Lib.hid hok
  have HOFF := Lib.hid hoff
  have H2 := Lib.hid h2
  clear h hin hb1 h2 hoff hok
  go_enter Try.func28, Try.ntmps28
  go_upto_region 1 with fail
  rw [show #[Value.int .i64 0, .int .i64 0, .int .u32 0, .int .u32 0, .int .i64 0, .int .i64 0, .int .i64 0, .int .i64 0] = ndA Nd.zero from rfl]
  generalize w.alloc (Obj.cells (ndA Nd.zero) 50) = w1 at HP HB1 H2 ⊢
  obtain ⟨p, hp⟩ : ∃ p, w.heap.size = p := ⟨_, rfl⟩
  rw [hp] at HP HB1 HLQ ⊢
  have HPP := Lib.hid hp
  obtain ⟨c0, c1, c2, c3, c4⟩ := H2.out.five
  have hon := ref_on H2.out.slots HOK.out i hi
  unfold refV at hon
  have HON := Lib.hid hon
  clear hon hp
  go_wp2_with fail
  refine HON.out.mono ?_
  rintro e w2 ⟨rfl, hb2⟩
  have HB2 := Lib.hid hb2
  have HP2 := Lib.hid ((hb2.block p (Array.getElem?_eq_some_iff.1 HP.out).1).trans HP.out)
  have H3 := Lib.hid (H2.out.below hb2)
  have HBB : Hid (Below w.heap.size w w2) := by
    have h9 := HB1.out
    rw [HPP.out]
    exact h9.trans (hb2.mono (by have := h9.size; rw [HPP.out] at this; exact this))
  clear hb2 c0 c1 c2 c3 c4
  by_cases ho : A.σ.on i = true
  · have hle := HOK.out.on i ho
    obtain ⟨j, rfl⟩ : ∃ j, i = j + 1 := ⟨i - 1, by omega⟩
    have hj : j < A.σ.cap := by omega
    have hji : (j : Int) < (A.σ.cap : Int) := by omega
    have hj0 : (0 : Int) ≤ (j : Int) := by omega
    have hj4 : (j : Int) + 1 < 4294967296 := by omega
    rw [ho]
    have HO := Lib.hid ho
    have hx := H3.out.box
    unfold arV at hx
    have c7 := (row8 hx).2.2.2.2.2.2.2
    have hf7 := frozen_of_row w2 q 7 _ _ hx
    have HJ := Lib.hid hj
    clear ho hle hx hj hi
    go_upto_region 4 with fail
    obtain ⟨h4, ha4⟩ := H3.out.setReads (rd + 1)
    have hP4 : (w2.setCell ⟨q, 7, none⟩ (.int .u64 (rd + 1))).heap[p]? = some (Obj.cells (ndA Nd.zero) 50 (0, 0)) := (heap_setCell_other _ _ _ _ (show p ≠ q by have := HLQ.out; omega)).trans HP2.out
    have HA4 := Lib.hid (alters_trans (Alters.of_below HBB.out : Alters (FR q r) (FR q r) w w2) ha4)
    have H4 := Lib.hid h4
    have HP4 := Lib.hid hP4
    clear h4 ha4 hP4 c7 hf7
    generalize w2.setCell ⟨q, 7, none⟩ (.int .u64 (rd + 1)) = w3 at H4 HA4 HP4 ⊢
    obtain ⟨go, gn, gg, gc, hoa, hna, hga, hca, _, _, _, g0, g1, g2, g3, g4, g5, g6, g7⟩ := H4.out.at_ HJ.out
    obtain ⟨_, _, c5, _⟩ := H4.out.heads hoa hna hga hca
    clear hoa hna hga hca
    go_wp2_with (refine wpList_store_row rfl 50 (.tmp 4) (.tmp 28) rfl p (ndA (A.nd (j + 1))) rfl rfl 50 _ HP4.out HIN.out rfl (nd_ones _) ?_)
    refine bodyPost_ret (results_row_tmp rfl _ _ p 50 (ndA (A.nd (j + 1))) (0, 0) _ rfl (setRow_heap _ _ _ _ _ _ HP4.out) HU.out rfl HIN.out) rfl ?_
    have hpp := HPP.out
    exact ⟨by rw [HO.out]; rfl, by rw [if_pos HO.out]; exact H4.out.keepAll fun k hk => setRow_other _ _ _ _ (by have := HFL.out k hk; omega), alters_row HA4.out (by omega)⟩
  · have ho' : A.σ.on i = false := by simpa using ho
    rw [ho']
    have HZ := Lib.hid (HOFF.out i ho')
    have HO := Lib.hid ho'
    clear ho ho'
    go_wp2_with (refine wpList_store_row rfl 50 (.tmp 4) (.tmp 13) rfl p (ndA Nd.zero) rfl rfl 50 _ HP2.out HIN.out rfl (nd_ones _) ?_)
    refine bodyPost_ret (results_row_tmp rfl _ _ p 50 (ndA Nd.zero) (0, 0) _ rfl (setRow_heap _ _ _ _ _ _ HP2.out) HU.out rfl HIN.out) rfl ?_
    have hpp := HPP.out
    exact ⟨by rw [HO.out, HZ.out]; rfl, by rw [HO.out, if_neg (by simp)]; exact H3.out.keepAll fun k hk => setRow_other _ _ _ _ (by have := HFL.out k hk; omega), alters_row (Alters.of_below HBB.out) (by omega)⟩
end
end Go.Proofs.Ytnmookemeibioaa
set_option linter.unusedVariables false
namespace Go.Proofs.Ytnmookemeibioaa
open Go.RowKit
def SizeRes (B q : Nat) (w : World) (A : Ar) (rd : Int) (r : AL) (i : Nat) (e : Ending) (w' : World) : Prop :=
  e = .returned (.int .i64 (A.nd i).size) ∧ RefAr B w' q A (if A.σ.on i = true then rd + 1 else rd) r ∧ Alters (FR q r) (FR q r) w w'
section
variable {B q : Nat} {w w' : World} {A : Ar} {rd : Int} {r : AL}
set_option maxHeartbeats 2000000 in
set_option maxRecDepth 100000 in
theorem rar_size (h : RefAr B w q A rd r) (hok : A.σ.Ok) (hoff : ∀ i, A.σ.on i = false → A.nd i = Nd.zero) (i : Nat) (hi : i < 4294967296) (h0 : 0 ≤ rd) (h1 : rd < 4611686018427387904) :
    Calls Try.prog 30 #[.pointer (some ⟨q, 0, none⟩), .int .u32 (i : Int)] w (SizeRes B q w A rd r i) := by
  have HN := Lib.hid (rar_node h hok hoff i hi h0 h1)
  clear h hok hoff
  go_enter Try.func30, Try.ntmps30
  go_wp2_with fail
  refine HN.out.mono ?_
  rintro e w2 ⟨rfl, h2, ha⟩
  have H2 := Lib.hid h2
  have HA := Lib.hid ha
  clear h2 ha HN
  unfold ndA
  have hb3 := below_new5 w2 (Obj.cells #[Value.int .i64 (A.nd i).key, .int .i64 (A.nd i).val, .int .u32 ((A.nd i).left : Int), .int .u32 ((A.nd i).right : Int), .int .i64 (A.nd i).size, .int .i64 (A.nd i).sum, .int .i64 (A.nd i).mn, .int .i64 (A.nd i).mx] 50)
  have HB3 := Lib.hid hb3
  clear hb3
  go_wp2_with fail
  go_ret
  exact ⟨rfl, H2.out.below HB3.out, alters_trans HA.out (.of_below HB3.out)⟩
end
end Go.Proofs.Ytnmookemeibioaa
set_option linter.unusedVariables false
namespace Go.Proofs.Ytnmookemeibioaa
open Go.RowKit
theorem below_setRow {w w' : World} {B p : Nat} {cs : Array Value} (h : Below B w w') (hp : B ≤ p) : Below B w (w'.setRow p cs) :=
  ⟨h.os, h.tape, h.output, by have := h.size; simp [World.setRow]; omega, fun k hk => (setRow_other _ _ _ _ (by omega)).trans (h.block k hk)⟩
/-- the node of an index -/
def Ar.ndx (A : Ar) (i : Nat) : Nd := if i = 0 then Nd.zero else A.nd i
section
variable {B q : Nat} {w w' : World} {A : Ar} {rd : Int} {r : AL}
set_option maxHeartbeats 2000000 in
set_option maxRecDepth 100000 in
theorem rar_at (h : RefAr B w q A rd r) (hok : A.σ.Ok) (i : Nat) (hx : A.Idx i) :
    Calls Try.prog 58 #[.pointer (some ⟨q, 0, none⟩), .int .u32 (i : Int)] w (Calm w (.agg (ndA (A.ndx i)))) := by
  have HU : Hid _ := Lib.hid Try.underlying50
  have hin : (Try.prog.info? 50).map (·.size) = some 8 := by kernel_rfl
  have HIN := Lib.hid hin
  have hb1 := below_new5 w (Obj.cells (ndA Nd.zero) 50)
  have h2 := h.below hb1
  have HP := Lib.hid (heap_alloc_new w (Obj.cells (ndA Nd.zero) 50))
  have HB1 := Lib.hid hb1
  have H2 := Lib.hid h2
  have HX := Lib.hid hx
  clear h hin hb1 h2 hx
  go_enter Try.func58, Try.ntmps58
  go_upto_region 1 with fail
  rw [show #[Value.int .i64 0, .int .i64 0, .int .u32 0, .int .u32 0, .int .i64 0, .int .i64 0, .int .i64 0, .int .i64 0] = ndA Nd.zero from rfl]
  generalize w.alloc (Obj.cells (ndA Nd.zero) 50) = w1 at HP HB1 H2 ⊢
  obtain ⟨p, hp⟩ : ∃ p, w.heap.size = p := ⟨_, rfl⟩
  rw [hp] at HP HB1 ⊢
  have HPP := Lib.hid hp
  clear hp
  by_cases h0 : i = 0
  · subst h0
    clear hok
    go_wp2_with (refine wpList_store_row rfl 50 (.tmp 4) (.tmp 7) rfl p (ndA Nd.zero) rfl rfl 50 _ HP.out HIN.out rfl (nd_ones _) ?_)
    refine bodyPost_ret (results_cell_row rfl _ _ p 50 (ndA Nd.zero) (0, 0) _ rfl (setRow_heap _ _ _ _ _ _ HP.out) HU.out rfl HIN.out) rfl ?_
    exact ⟨by unfold Ar.ndx; rw [if_pos rfl], by rw [HPP.out]; exact below_setRow HB1.out (Nat.le_refl _)⟩
  · have hon : A.σ.on i = true := by
      rcases HX.out with e | e
      · exact absurd e h0
      · exact e
    have hle := hok.on i hon
    have hcap := hok.cap2
    obtain ⟨j, rfl⟩ : ∃ j, i = j + 1 := ⟨i - 1, by omega⟩
    have hj : j < A.σ.cap := by omega
    have hji : (j : Int) < (A.σ.cap : Int) := by omega
    have hj0 : (0 : Int) ≤ (j : Int) := by omega
    have hj4 : (j : Int) + 1 < 4294967296 := by omega
    have hjn : (((j : Int) + 1) == 0) = false := beq_eq_false_iff_ne.2 (by omega)
    obtain ⟨go, gn, gg, gc, hoa, hna, hga, hca, _, _, _, g0, g1, g2, g3, g4, g5, g6, g7⟩ := H2.out.at_ hj
    obtain ⟨_, _, c5, _⟩ := H2.out.heads hoa hna hga hca
    clear hoa hna hga hca hok hcap hle hon h0 hj
    go_wp2_with (refine wpList_store_row rfl 50 (.tmp 4) (.tmp 15) rfl p (ndA (A.nd (j + 1))) rfl rfl 50 _ HP.out HIN.out rfl (nd_ones _) ?_)
    refine bodyPost_ret (results_cell_row rfl _ _ p 50 (ndA (A.nd (j + 1))) (0, 0) _ rfl (setRow_heap _ _ _ _ _ _ HP.out) HU.out rfl HIN.out) rfl ?_
    exact ⟨by unfold Ar.ndx; rw [if_neg (by omega)], by rw [HPP.out]; exact below_setRow HB1.out (Nat.le_refl _)⟩
/-- the references to i from the first k slots -/
def Ar.refk (A : Ar) (i k : Nat) : Nat := ((List.range' 1 k).map fun j => A.edge j i).sum
theorem refk_succ (A : Ar) (i k : Nat) : A.refk i (k + 1) = A.refk i k + A.edge (k + 1) i := by
  unfold Ar.refk
  rw [List.range'_concat, List.map_append, List.sum_append]
  simp [Nat.add_comm]
theorem edge_two (A : Ar) (k i : Nat) : A.edge k i ≤ 2 := by
  unfold Ar.edge hit
  split
  · split <;> split <;> omega
  · omega
theorem refk_le (A : Ar) (i : Nat) : ∀ k, A.refk i k ≤ 2 * k
  | 0 => by simp [Ar.refk]
  | k + 1 => by rw [refk_succ]; have := refk_le A i k; have := edge_two A (k + 1) i; omega
set_option maxHeartbeats 2000000 in
set_option maxRecDepth 100000 in
theorem rar_edges (h : RefAr B w q A rd r) (hok : A.σ.Ok) (i : Nat) (hi : i < 4294967296) :
    Calls Try.prog 24 #[.pointer (some ⟨q, 0, none⟩), .int .u32 (i : Int)] w (fun e w' => e = .returned (.int .i64 (A.refs i : Int)) ∧ w' = w) := by
  obtain ⟨c0, c1, c2, c3, c4⟩ := h.five
  have hcap := hok.cap2
  have HH := Lib.hid h
  clear h hok
  obtain ⟨n, hn⟩ : ∃ n, A.σ.cap = n := ⟨_, rfl⟩
  have HN := Lib.hid hn
  rw [hn] at hcap c0
  have HC0 := Lib.hid c0
  clear hn c0 c1 c2 c3 c4
  have hni : (n : Int) ≤ 65536 := by omega
  go_enter Try.func24, Try.ntmps24
  go_wp2_with fail
  go_loopw [5, 6] (fun x k wr => ∃ j : Nat, j ≤ n ∧ x = .int .i64 ((A.refk i j : Nat) : Int) ∧ k = .int .i64 (j : Int) ∧ wr = w) (fun _ k _ => n - (intOf k).toNat)
  case atStart => exact ⟨0, Nat.zero_le _, by simp [Ar.refk], rfl, rfl⟩
  case round =>
    obtain ⟨j, hj, rfl, rfl, rfl⟩ := hrel
    have c0 := HC0.out
    by_cases hlt : j < n
    · have hji : (j : Int) < (n : Int) := by omega
      have hj0 : (0 : Int) ≤ (j : Int) := by omega
      obtain ⟨go, gn, gg, gc, hoa, hna, hga, hca, b0, _, _, _, _, g2, g3, _⟩ := HH.out.at_ (k := j) (by rw [HN.out]; exact hlt)
      obtain ⟨_, c4, c5, _⟩ := HH.out.heads hoa hna hga hca
      rw [HN.out] at c4 c5
      have hs := refk_succ A i j
      have hle := refk_le A i j
      have he : A.edge (j + 1) i = if A.σ.on (j + 1) = true then hit (A.nd (j + 1)).left i + hit (A.nd (j + 1)).right i else 0 := rfl
      have HS := Lib.hid hs
      have HE := Lib.hid he
      clear hoa hna hga hca hs he
      generalize hR : A.refk i j = R at hle ⊢
      have HR := Lib.hid hR
      clear hR
      have hRi : (R : Int) ≤ 131072 := by omega
      have hR0 : (0 : Int) ≤ (R : Int) := by omega
      cases hon : A.σ.on (j + 1) with
      | false =>
        rw [hon] at b0
        have HON := Lib.hid hon
        clear hon g2 g3
        go_wp2_with fail
        refine ⟨⟨j + 1, by omega, ?_, by go_num, trivial⟩, by simp [intOf]; omega⟩
        rw [HS.out, HE.out, HON.out, HR.out]; simp
      | true =>
        rw [hon] at b0
        have HON := Lib.hid hon
        clear hon
        have hb1 : ∀ y : Nat, (((y : Int)) == (i : Int)) = decide (y = i) := fun y => by
          by_cases e : y = i
          · subst e; simp
          · rw [decide_eq_false e]; exact beq_eq_false_iff_ne.2 (by omega)
        generalize hL : (A.nd (j + 1)).left = Lf at g2
        generalize hRt : (A.nd (j + 1)).right = Rg at g3
        have hbl := hb1 Lf
        have hbr := hb1 Rg
        have HL := Lib.hid hL
        have HRT := Lib.hid hRt
        clear hb1 hL hRt
        by_cases e1 : Lf = i
        · rw [decide_eq_true e1] at hbl
          have E1 := Lib.hid e1
          clear e1
          by_cases e2 : Rg = i
          · rw [decide_eq_true e2] at hbr
            have E2 := Lib.hid e2
            clear e2
            go_wp2_with fail
            refine ⟨⟨j + 1, by omega, ?_, by go_num, trivial⟩, by simp [intOf]; omega⟩
            rw [HS.out, HE.out, HON.out, HR.out, HL.out, HRT.out]; simp [hit, E1.out, E2.out]; go_num
          · rw [decide_eq_false e2] at hbr
            have E2 := Lib.hid e2
            clear e2
            go_wp2_with fail
            refine ⟨⟨j + 1, by omega, ?_, by go_num, trivial⟩, by simp [intOf]; omega⟩
            rw [HS.out, HE.out, HON.out, HR.out, HL.out, HRT.out]; simp [hit, E1.out, E2.out]
        · rw [decide_eq_false e1] at hbl
          have E1 := Lib.hid e1
          clear e1
          by_cases e2 : Rg = i
          · rw [decide_eq_true e2] at hbr
            have E2 := Lib.hid e2
            clear e2
            go_wp2_with fail
            refine ⟨⟨j + 1, by omega, ?_, by go_num, trivial⟩, by simp [intOf]; omega⟩
            rw [HS.out, HE.out, HON.out, HR.out, HL.out, HRT.out]; simp [hit, E1.out, E2.out]
          · rw [decide_eq_false e2] at hbr
            have E2 := Lib.hid e2
            clear e2
            go_wp2_with fail
            refine ⟨⟨j + 1, by omega, ?_, by go_num, trivial⟩, by simp [intOf]; omega⟩
            rw [HS.out, HE.out, HON.out, HR.out, HL.out, HRT.out]; simp [hit, E1.out, E2.out]
    · obtain rfl : j = n := by omega
      go_wp2_with fail
      go_ret
      refine ⟨?_, rfl⟩
      show Ending.returned (.int .i64 ((A.refk i j : Nat) : Int)) = _
      rw [← HN.out]
      rfl
end
end Go.Proofs.Ytnmookemeibioaa
