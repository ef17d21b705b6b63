/- The reference's arena keeps the plain state: where it lies; New. -/
import Derived.Test.YtnmookemeibioaaRefSlots6
import Derived.Test.YtnmookemeibioaaPlayPure
import Derived.Test.YtnmookemeibioaaDumpD
import Derived.Test.YtnmookemeibioaaArenaCon
import Derived.OwnWalk
set_option linter.unusedVariables false
namespace Go.Proofs.Ytnmookemeibioaa
open Go.RowKit

theorem step_make_full {P : Program} {w : World} {ops : Array Oper} {o : Oper} {a : Act} {K : Act → World → Prop} {Q : Exit → Act → World → Prop} {E : Prop} (hgd : o.guard = none) (l c : Operand) (t : TypeId) (hop : o.op = Op.makeSlice t l c)
    (base : Nat) (e : TypeId) (i : TypeInfo) (z : Value) (size : Nat) (h1 : P.underlying t = some (.slice e)) (h2 : P.info? e = some i) (h3 : i.zero = some z) (h4 : i.size = size)
    (kl kc : IntKind) (n : Nat) (hl : a.eval l = .int kl (n : Int)) (hc : a.eval c = .int kc (n : Int)) (b2 : i.bytes * n ≤ 281474976710656) (b3 : n ≤ maxLen) (b4 : base ≤ w.heap.size)
    (hK : ∀ w', w'.ownsRow base e size (.slice (some ⟨w.heap.size, 0, none⟩) n n) n (madeCells z.cells (n * size)).toList → w.grownBy w' none → K (a.put o.dst (.slice (some ⟨w.heap.size, 0, none⟩) n n)) w') :
    if Region.wanted o (yielded ops a.tmps) = true then Oper.wp P o a w K Q else E := by
  have hw : Region.wanted o (yielded ops a.tmps) = true := by simp [Region.wanted, hgd]
  rw [if_pos hw]
  obtain ⟨w', hrun, r1, r2⟩ := run_make_full (P := P) w base t e i z size h1 h2 h3 h4 kl kc n b2 b3 b4
  unfold Oper.wp
  simp [execOp, hop, hl, hc, hrun, Result.andThen]
  exact hK w' r1 r2
def ndsV (A : Ar) : List Value := (List.range' 1 A.σ.cap).flatMap fun i => ndV (A.nd i)
def cntsV (A : Ar) : List Value := (List.range A.σ.cap).map fun j => .int .i64 (A.cnt (j + 1))
theorem cntsV_at (A : Ar) {j : Nat} (h : j < A.σ.cap) : (cntsV A)[j]? = some (.int .i64 (A.cnt (j + 1))) := by simp [cntsV, h]
theorem nInfo : (Try.prog.info? 50).map (fun i => (i.zero, i.size, i.bytes)) = some (some (.agg #[.int .i64 0, .int .i64 0, .int .u32 0, .int .u32 0, .int .i64 0, .int .i64 0, .int .i64 0, .int .i64 0]), 8, 56) := by kernel_rfl
/-- where the reference's rows lie -/
structure AL where
  st : List Nat
  fr : Nat
  sa : Option Addr
  ga : Option Addr
  oa : Option Addr
  na : Option Addr
  ca : Option Addr
  sc : Nat
  gc : Nat
  oc : Nat
  nc : Nat
  cc : Nat
def arV (A : Ar) (rd : Int) (r : AL) : Array Value :=
  #[.int .i64 (A.σ.cap : Int), .slice r.sa r.st.length r.sc, .int .i64 (r.fr : Int), .slice r.ga A.σ.cap r.gc, .slice r.oa A.σ.cap r.oc, .slice r.na A.σ.cap r.nc, .slice r.ca A.σ.cap r.cc, .int .u64 rd]
structure RefAr (B : Nat) (w : World) (q : Nat) (A : Ar) (rd : Int) (r : AL) : Prop where
  box : w.heap[q]? = some (.cells (arV A rd r) 60 (0, 0))
  slots : RefAt B (fun k => B ≤ k) w A.σ r.st r.fr r.sa r.ga r.oa r.sc r.gc r.oc
  nodes : w.ownsRow B 50 8 (.slice r.na A.σ.cap r.nc) A.σ.cap (ndsV A)
  cnts : w.ownsRow B 3 1 (.slice r.ca A.σ.cap r.cc) A.σ.cap (cntsV A)
  hq : B ≤ q
theorem RefAr.lt {B q : Nat} {w : World} {A : Ar} {rd : Int} {r : AL} (h : RefAr B w q A rd r) : q < w.heap.size := (Array.getElem?_eq_some_iff.1 h.box).1
theorem RefAr.below {B q : Nat} {w w' : World} {A : Ar} {rd : Int} {r : AL} (h : RefAr B w q A rd r) (hb : Below w.heap.size w w') : RefAr B w' q A rd r :=
  ⟨(hb.block q h.lt).trans h.box, h.slots.below hb, row_below h.nodes hb, row_below h.cnts hb, h.hq⟩
theorem RefAt.mono2 {B B' : Nat} {w : World} {σ : St} {st : List Nat} {fr : Nat} {sa ga oa : Option Addr} {sc gc oc : Nat} (h : RefAt B (fun k => B ≤ k) w σ st fr sa ga oa sc gc oc) (hB : B' ≤ B) : RefAt B' (fun k => B' ≤ k) w σ st fr sa ga oa sc gc oc :=
  ⟨h.free, h.fr1, h.fr2, row_mono h.stack hB, row_mono h.gen hB, row_mono h.on hB, fun k hk => Nat.le_trans hB (h.inS k hk), fun k hk => Nat.le_trans hB (h.inG k hk), fun k hk => Nat.le_trans hB (h.inO k hk)⟩
theorem flat_nth {α : Type} {f : α → List Value} {m : Nat} (hm : ∀ x, (f x).length = m) : ∀ (l : List α) (i j : Nat) (x : α), l[i]? = some x → j < m → (l.flatMap f)[i * m + j]? = (f x)[j]?
  | [], i, j, x, h, hj => by simp at h
  | a :: t, 0, j, x, h, hj => by
    simp at h
    subst h
    rw [List.flatMap_cons, Nat.zero_mul, Nat.zero_add, List.getElem?_append_left (by rw [hm]; exact hj)]
  | a :: t, i + 1, j, x, h, hj => by
    simp at h
    rw [List.flatMap_cons, List.getElem?_append_right (by rw [hm, Nat.succ_mul]; omega), hm, show (i + 1) * m + j - m = i * m + j by rw [Nat.succ_mul]; omega]
    exact flat_nth hm t i j x h hj
theorem nds_len (A : Ar) : (ndsV A).length = A.σ.cap * 8 := by
  unfold ndsV
  have key : ∀ l : List Nat, (l.flatMap fun i => ndV (A.nd i)).length = l.length * 8 := fun l => by
    induction l with
    | nil => rfl
    | cons a t ih => rw [List.flatMap_cons, List.length_append, ih]; simp [ndV]; omega
  rw [key, List.length_range']
theorem nds_at (A : Ar) {i j : Nat} (hi : i < A.σ.cap) (hj : j < 8) : (ndsV A)[i * 8 + j]? = (ndV (A.nd (i + 1)))[j]? :=
  flat_nth (f := fun i => ndV (A.nd i)) (m := 8) (fun x => rfl) (List.range' 1 A.σ.cap) i j (i + 1) (by rw [List.getElem?_range' hi]; simp; omega) hj
theorem nds_zero (n : Nat) : (madeCells (Value.agg #[.int .i64 0, .int .i64 0, .int .u32 0, .int .u32 0, .int .i64 0, .int .i64 0, .int .i64 0, .int .i64 0]).cells (n * 8)).toList = ndsV (Ar.init n) := by
  have hl := nds_len (Ar.init n)
  have hc : (Ar.init n).σ.cap = n := rfl
  rw [hc] at hl
  apply List.ext_getElem?
  intro j
  by_cases hj : j < n * 8
  · have h1 := nds_at (Ar.init n) (i := j / 8) (j := j % 8) (by rw [hc]; omega) (by omega)
    rw [show j / 8 * 8 + j % 8 = j by omega] at h1
    rw [h1]
    show _ = (ndV Nd.zero)[j % 8]?
    have h2 : j % 8 < 8 := by omega
    unfold madeCells
    simp only [Array.toList_map, Array.toList_range, List.getElem?_map, List.getElem?_range hj, Option.map_some]
    rcases (show j % 8 = 0 ∨ j % 8 = 1 ∨ j % 8 = 2 ∨ j % 8 = 3 ∨ j % 8 = 4 ∨ j % 8 = 5 ∨ j % 8 = 6 ∨ j % 8 = 7 by omega) with e | e | e | e | e | e | e | e <;> (simp [Value.cells, e, ndV, Nd.zero])
  · rw [List.getElem?_eq_none (by rw [Array.length_toList, size_madeCells]; omega), List.getElem?_eq_none (by omega)]
theorem cnts_zero (n : Nat) : (madeCells (Value.int .i64 0).cells (n * 1)).toList = cntsV (Ar.init n) := by
  rw [natR_zero]
  unfold natR cntsV Ar.init
  rfl
theorem below_new5 (w : World) (o : Obj) : Below w.heap.size w (w.alloc o) := (Below.refl _ _).alloc (Nat.le_refl _) _
theorem below_none {a b : World} (hg : a.grownBy b none) : Below a.heap.size a b := (Below.refl _ _).grown hg (Nat.le_refl _) (fun k hk => by cases hk)
theorem trans_of {w a b : World} (h : Below w.heap.size w a) (hs : w.heap.size ≤ a.heap.size) (hb : Below a.heap.size a b) : Below w.heap.size w b := h.trans (hb.mono hs)
def RArNew (w : World) (n : Nat) (e : Ending) (w' : World) : Prop :=
  ∃ q r, e = .returned (.pointer (some ⟨q, 0, none⟩)) ∧ RefAr w.heap.size w' q (Ar.init n) 0 r ∧ Below w.heap.size w w'
theorem rar_fin {n g1 g2 q gc oc : Nat} {w W : World} {ga oa : Option Addr} {NZ CZ : Array Value} (h1 : 1 ≤ n) (h2 : n ≤ 65536) (hN1 : NZ.toList = ndsV (Ar.init n) ∧ NZ.size = n * 8) (hC1 : CZ.toList = cntsV (Ar.init n) ∧ CZ.size = n)
    (hq : W.heap.size = q) (hb : Below w.heap.size w W) (hR : RefAt w.heap.size (fun k => w.heap.size ≤ k) W (St.init n) [] 1 none ga oa 0 gc oc)
    (hN : W.heap[g1]? = some (.cells NZ 50 (0, 0))) (hC : W.heap[g2]? = some (.cells CZ 3 (0, 0))) (hg1 : w.heap.size ≤ g1) (hg2 : w.heap.size ≤ g2) :
    RArNew w n (.returned (.pointer (some ⟨q, 0, none⟩))) (W.alloc (Obj.cells #[.int .i64 ((St.init n).cap : Int), .slice none 0 0, .int .i64 1, .slice ga (St.init n).cap gc, .slice oa (St.init n).cap oc, .slice (some ⟨g1, 0, none⟩) n n, .slice (some ⟨g2, 0, none⟩) n n, .int .u64 0] 60)) := by
  subst hq
  have hbn := below_new5 W (Obj.cells #[.int .i64 ((St.init n).cap : Int), .slice none 0 0, .int .i64 1, .slice ga (St.init n).cap gc, .slice oa (St.init n).cap oc, .slice (some ⟨g1, 0, none⟩) n n, .slice (some ⟨g2, 0, none⟩) n n, .int .u64 0] 60)
  refine ⟨W.heap.size, ⟨[], 1, none, ga, oa, some ⟨g1, 0, none⟩, some ⟨g2, 0, none⟩, 0, gc, oc, n, n⟩, rfl, ⟨heap_alloc_new W _, hR.below hbn, row_below ?_ hbn, row_below ?_ hbn, hb.size⟩, trans_of hb hb.size hbn⟩
  · refine ⟨nds_len _, .inr ⟨g1, n, NZ, rfl, hg1, hN, Nat.le_refl _, by show n ≤ maxLen; unfold maxLen; omega, hN1.2, ?_⟩⟩
    rw [hN1.1, List.take_of_length_le (by rw [nds_len]; exact Nat.le_refl _)]
  · have := own_full (B := w.heap.size) hC hC1.2 hg2 (show n ≤ maxLen by unfold maxLen; omega)
    rw [hC1.1] at this
    exact this
set_option maxHeartbeats 4000000 in
set_option maxRecDepth 100000 in
theorem rar_new (n : Nat) (w : World) (h1 : 1 ≤ n) (h2 : n ≤ 65536) : Calls Try.prog 18 #[.int .i64 (n : Int)] w (RArNew w n) := by
  obtain ⟨i0, hi, hz0, hz1, hz2⟩ := info_parts nInfo
  obtain ⟨i1, ki, kz0, kz1, kz2⟩ := info_parts i64sInfo
  have hni : (n : Int) ≤ 65536 := by omega
  obtain ⟨NZ, hNZ⟩ : ∃ NZ, madeCells (Value.agg #[.int .i64 0, .int .i64 0, .int .u32 0, .int .u32 0, .int .i64 0, .int .i64 0, .int .i64 0, .int .i64 0]).cells (n * 8) = NZ := ⟨_, rfl⟩
  obtain ⟨CZ, hCZ⟩ : ∃ CZ, madeCells (Value.int .i64 0).cells (n * 1) = CZ := ⟨_, rfl⟩
  have hm1 : ∀ wx : World, (Instr.makeSlice 57 (.int .i64 (n : Int)) (.int .i64 (n : Int))).run Try.prog wx = .ok (.slice (some ⟨wx.heap.size, 0, none⟩) n n) (wx.alloc (.cells NZ 50)) := fun wx => by
    have := run_make (P := Try.prog) wx 57 50 i0 _ Try.underlying57 hi hz0 .i64 .i64 (n : Int) (n : Int) (by omega) (by omega) (by rw [hz2]; omega) (by omega)
    rw [Int.toNat_natCast, hz1, hNZ] at this
    exact this
  have hm2 : ∀ wx : World, (Instr.makeSlice 58 (.int .i64 (n : Int)) (.int .i64 (n : Int))).run Try.prog wx = .ok (.slice (some ⟨wx.heap.size, 0, none⟩) n n) (wx.alloc (.cells CZ 3)) := fun wx => by
    have := run_make (P := Try.prog) wx 58 3 i1 _ Try.underlying58 ki kz0 .i64 .i64 (n : Int) (n : Int) (by omega) (by omega) (by rw [kz2]; omega) (by omega)
    rw [Int.toNat_natCast, kz1, hCZ] at this
    exact this
  have HN1 : Hid (NZ.toList = ndsV (Ar.init n) ∧ NZ.size = n * 8) := ⟨by rw [← hNZ]; exact nds_zero n, by rw [← hNZ]; exact size_madeCells _ _⟩
  have HC1 : Hid (CZ.toList = cntsV (Ar.init n) ∧ CZ.size = n) := ⟨by rw [← hCZ]; exact cnts_zero n, by rw [← hCZ, size_madeCells, Nat.mul_one]⟩
  clear hi hz0 hz1 hz2 ki kz0 kz1 kz2 hNZ hCZ
  go_enter Try.func18, Try.ntmps18
  go_wp2_with fail
  go_region_with (go_at_call 48; refine (ref_new n _ h1 h2).mono ?_; rintro e wR ⟨ga, oa, gc, oc, rfl, hR, hb⟩; unfold refV)
  all_goals (go_wp2_with fail; go_ret; clear hm1 hm2)
  · have hb0 : Below w.heap.size w w.drew := (Below.refl _ _).drew
    have hbW := trans_of hb0 hb0.size hb
    have hA := below_new5 wR (Obj.cells NZ 50)
    have hB := below_new5 (wR.alloc (Obj.cells NZ 50)) (Obj.cells CZ 3)
    exact rar_fin h1 h2 HN1.out HC1.out (by simp) (trans_of (trans_of hbW hbW.size hA) (Nat.le_trans hbW.size hA.size) hB) (((hR.mono2 hb0.size).below hA).below hB) (heap_alloc2_old _ _ _) (heap_alloc2_new _ _ _) hbW.size (Nat.le_succ_of_le hbW.size)
  · have hb0 : Below w.heap.size w w.drew := (Below.refl _ _).drew
    have hbW := trans_of hb0 hb0.size hb
    have hA := below_new5 wR (Obj.cells CZ 3)
    have hB := below_new5 (wR.alloc (Obj.cells CZ 3)) (Obj.cells NZ 50)
    exact rar_fin h1 h2 HN1.out HC1.out (by simp) (trans_of (trans_of hbW hbW.size hA) (Nat.le_trans hbW.size hA.size) hB) (((hR.mono2 hb0.size).below hA).below hB) (heap_alloc2_new _ _ _) (heap_alloc2_old _ _ _) (Nat.le_succ_of_le hbW.size) hbW.size
  · have hb0 : Below w.heap.size w (w.alloc (Obj.cells NZ 50)).drew := (below_new5 _ _).drew
    have hbW := trans_of hb0 hb0.size hb
    have hA := below_new5 wR (Obj.cells CZ 3)
    have hN := (hb.block w.heap.size (by simp)).trans (heap_alloc_new w (Obj.cells NZ 50))
    have hlt : w.heap.size < wR.heap.size := (Array.getElem?_eq_some_iff.1 hN).1
    exact rar_fin h1 h2 HN1.out HC1.out (by simp) (trans_of hbW hbW.size hA) ((hR.mono2 hb0.size).below hA) ((hA.block _ hlt).trans hN) (heap_alloc_new _ _) (Nat.le_refl _) hbW.size
  · have hb0 : Below w.heap.size w ((w.alloc (Obj.cells NZ 50)).alloc (Obj.cells CZ 3)).drew := ((below_new5 _ _).alloc (by simp) _).drew
    have hbW := trans_of hb0 hb0.size hb
    have hN := (hb.block w.heap.size (by simp; omega)).trans (heap_alloc2_old w (Obj.cells NZ 50) (Obj.cells CZ 3))
    have hC := (hb.block (w.heap.size + 1) (by simp)).trans (heap_alloc2_new w (Obj.cells NZ 50) (Obj.cells CZ 3))
    exact rar_fin h1 h2 HN1.out HC1.out rfl hbW (hR.mono2 hb0.size) hN hC (Nat.le_refl _) (Nat.le_succ _)
  · have hb0 : Below w.heap.size w (w.alloc (Obj.cells CZ 3)).drew := (below_new5 _ _).drew
    have hbW := trans_of hb0 hb0.size hb
    have hA := below_new5 wR (Obj.cells NZ 50)
    have hC := (hb.block w.heap.size (by simp)).trans (heap_alloc_new w (Obj.cells CZ 3))
    have hlt : w.heap.size < wR.heap.size := (Array.getElem?_eq_some_iff.1 hC).1
    exact rar_fin h1 h2 HN1.out HC1.out (by simp) (trans_of hbW hbW.size hA) ((hR.mono2 hb0.size).below hA) (heap_alloc_new _ _) ((hA.block _ hlt).trans hC) hbW.size (Nat.le_refl _)
  · have hb0 : Below w.heap.size w ((w.alloc (Obj.cells CZ 3)).alloc (Obj.cells NZ 50)).drew := ((below_new5 _ _).alloc (by simp) _).drew
    have hbW := trans_of hb0 hb0.size hb
    have hC := (hb.block w.heap.size (by simp; omega)).trans (heap_alloc2_old w (Obj.cells CZ 3) (Obj.cells NZ 50))
    have hN := (hb.block (w.heap.size + 1) (by simp)).trans (heap_alloc2_new w (Obj.cells CZ 3) (Obj.cells NZ 50))
    exact rar_fin h1 h2 HN1.out HC1.out rfl hbW (hR.mono2 hb0.size) hN hC (Nat.le_succ _) (Nat.le_refl _)
end Go.Proofs.Ytnmookemeibioaa
