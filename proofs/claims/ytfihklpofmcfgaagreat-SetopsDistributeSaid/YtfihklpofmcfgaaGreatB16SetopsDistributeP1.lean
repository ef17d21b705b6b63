/- Of the proof of B16SetopsDistributeP: Bytes, DumpB, DumpR, DumpE, SoundP, SlotsAt, ChkS, SoundW, ScnMut, SetAlg, Hld. -/
import Derived.Test.YtfihklpofmcfgaaGreatB1614
import Derived.Lib.Zigzag
import Derived.Laws.BitsAllLaws
import Derived.Laws.Bits128
import Derived.RowKit
import Derived.Below
import Derived.Laws.OwnMore
import Derived.OwnWalk
import Derived.Deep.Draws
import Derived.Deep.QuietTactic
import Derived.BigQuiet
import Derived.BigGuardPart
import Derived.Deep.CutRange
import Derived.Deep.LoopGhost
set_option linter.unusedVariables false
namespace Go.Proofs.YtfihklpofmcfgaaGreat
open Go
end Go.Proofs.YtfihklpofmcfgaaGreat
namespace Go.Proofs.YtfihklpofmcfgaaGreat
open Go Go.RowKit
theorem add_at (b off j : Nat) : (⟨b, off, none⟩ : Addr).add j = ⟨b, off + j, none⟩ := by
  unfold Addr.add; split <;> simp_all
end Go.Proofs.YtfihklpofmcfgaaGreat
namespace Go.Proofs.YtfihklpofmcfgaaGreat
open Go.RowKit
def slV (s : Sl) : List Value := [.bool s.on, .int .i64 s.cnt, .int .u32 s.gen, .int .i64 s.nd.key, .int .i64 s.nd.val, .int .u32 (s.nd.left : Int), .int .u32 (s.nd.right : Int), .int .i64 s.nd.size, .int .i64 s.nd.sum, .int .i64 s.nd.mn, .int .i64 s.nd.mx]
/-- slot i + 1 of the n slots reads as S i -/
structure SlotsAt (w : World) (a : Option Addr) (n : Nat) (S : Nat → Sl) : Prop where
  cell : ∀ i, i < n → ∃ b off, a = some ⟨b, off, none⟩ ∧ b < w.heap.size ∧ ∀ j v, (slV (S i))[j]? = some v → w.cell? ⟨b, off + i * 11 + j, none⟩ = some v
  kid : ∀ i, i < n → (S i).nd.left < 4294967296 ∧ (S i).nd.right < 4294967296
theorem SlotsAt.below {w w' : World} {a : Option Addr} {n : Nat} {S : Nat → Sl} (h : SlotsAt w a n S) (hb : Below w.heap.size w w') : SlotsAt w' a n S := by
  refine ⟨fun i hi => ?_, h.kid⟩
  obtain ⟨b, off, ha, hlt, hc⟩ := h.cell i hi
  exact ⟨b, off, ha, Nat.lt_of_lt_of_le hlt hb.size, fun j v hv => by rw [← hc j v hv]; exact hb.cell (p := ⟨b, off + i * 11 + j, none⟩) hlt⟩
theorem kids_any (o : Bool) (c g k v s u x y : Int) (l r : Int) (w : World) :
    Calls Tryz.prog 113 #[.agg #[.bool o, .int .i64 c, .int .u32 g, .int .i64 k, .int .i64 v, .int .u32 l, .int .u32 r, .int .i64 s, .int .i64 u, .int .i64 x, .int .i64 y]] w
      (Calm w (.agg #[.int .u32 l, .int .u32 r])) := by
  have HU : Hid _ := Lib.hid Tryz.underlying50
  have hin : (Tryz.prog.info? 50).map (·.size) = some 2 := by kernel_rfl
  have HI := Lib.hid hin
  clear hin
  go_enter Tryz.func113, Tryz.ntmps113
  go_wp2
  exact bodyPost_ret (v := .agg #[.int .u32 l, .int .u32 r]) (results_cell_row rfl _ _ (w.heap.size + 1) 50 _ (0, 0) _ rfl (heap_alloc2_new w _ _) HU.out rfl HI.out) rfl ⟨rfl, ((Below.refl _ _).alloc (Nat.le_refl _) _).alloc (by simp) _⟩
set_option maxHeartbeats 1000000 in
set_option maxRecDepth 100000 in
theorem dallocated_any {w : World} {a b : Option Addr} {n c m d i : Nat} {S : Nat → Sl} (h : SlotsAt w a n S) (hn : n ≤ 65536) (hi : i < 4294967296) :
    Calls Tryz.prog 105 #[.agg #[.slice a n c, .slice b m d], .int .u32 (i : Int)] w (Calm w (.bool (decide (1 ≤ i ∧ i ≤ n ∧ (S (i - 1)).on = true)))) := by
  have hb1 : Below w.heap.size w (w.alloc (Obj.cells #[Value.slice a n c, Value.slice b m d] 33)) := (Below.refl _ _).alloc (Nat.le_refl _) _
  have HB := Lib.hid hb1
  clear hb1
  have hni : (n : Int) ≤ 65536 := by omega
  by_cases h0 : 1 ≤ i ∧ i ≤ n
  · obtain ⟨j, rfl⟩ : ∃ j, i = j + 1 := ⟨i - 1, by omega⟩
    obtain ⟨b', off, rfl, hlt, hc⟩ := h.cell j (by omega)
    have hc0 : w.cell? ⟨b', off + j * 11, none⟩ = _ := hc 0 _ rfl
    have hjn : (j : Int) < (n : Int) := by omega
    have hjn2 : (j : Int) + 1 ≤ (n : Int) := by omega
    have hj1 : (1 : Int) ≤ (j : Int) + 1 := by omega
    rw [show decide (1 ≤ j + 1 ∧ j + 1 ≤ n ∧ (S (j + 1 - 1)).on = true) = (S j).on by
      have : 1 ≤ j + 1 ∧ j + 1 ≤ n := h0
      simp [this]]
    generalize (S j).on = o at *
    clear h hc h0 hi
    go_enter Tryz.func105, Tryz.ntmps105
    go_wp2
    go_ret
    exact ⟨rfl, HB.out⟩
  · rw [show decide (1 ≤ i ∧ i ≤ n ∧ (S (i - 1)).on = true) = false by simp; omega]
    by_cases h1 : i = 0
    · subst h1
      clear h h0
      go_enter Tryz.func105, Tryz.ntmps105
      go_wp2
      go_ret
      exact ⟨rfl, HB.out⟩
    · have hin : ¬ (i : Int) ≤ (n : Int) := by omega
      have hi1 : (1 : Int) ≤ (i : Int) := by omega
      clear h h0
      go_enter Tryz.func105, Tryz.ntmps105
      go_wp2
      go_ret
      exact ⟨rfl, HB.out⟩
theorem i64sInfo : (Tryz.prog.info? 3).map (fun i => (i.zero, i.size, i.bytes)) = some (some (.int .i64 0), 1, 8) := by kernel_rfl
/-- a row of numbers -/
def natR (n : Nat) (f : Nat → Nat) : List Value := (List.range n).map fun i => .int .i64 ((f i : Nat) : Int)
theorem natR_at {n i : Nat} (f : Nat → Nat) (h : i < n) : (natR n f)[i]? = some (.int .i64 ((f i : Nat) : Int)) := by simp [natR, h]
theorem natR_zero (n : Nat) : (madeCells (Value.int .i64 0).cells (n * 1)).toList = natR n fun _ => 0 := by
  rw [Nat.mul_one]
  refine (toList_madeCells_one (.int .i64 0) n).trans ?_
  unfold natR
  simp [List.map_const']
theorem natR_set {n i : Nat} (f : Nat → Nat) (x : Int) (v : Nat) (hx : x = (v : Int)) : (natR n f).set i (.int .i64 x) = natR n fun j => if j = i then v else f j := by
  subst hx
  apply List.ext_getElem?
  intro j
  unfold natR
  rw [List.getElem?_set]
  by_cases hj : j < n
  · by_cases e : i = j
    · subst e; simp [hj]
    · have e2 : ¬ j = i := fun h => e h.symm
      simp [hj, e, e2]
  · by_cases e : i = j
    · subst e; simp [hj]
    · simp [hj, e]
/-- a slice of slot numbers reads as l -/
structure U32At (w : World) (a : Option Addr) (l : List Nat) : Prop where
  cell : ∀ j, j < l.length → ∃ b off, a = some ⟨b, off, none⟩ ∧ b < w.heap.size ∧ w.cell? ⟨b, off + j, none⟩ = some (.int .u32 ((l.getD j 0 : Nat) : Int))
  lt : ∀ x ∈ l, x < 4294967296
theorem U32At.below {w w' : World} {a : Option Addr} {l : List Nat} (h : U32At w a l) (hb : Below w.heap.size w w') : U32At w' a l := by
  refine ⟨fun j hj => ?_, h.lt⟩
  obtain ⟨b, off, ha, hlt, hc⟩ := h.cell j hj
  exact ⟨b, off, ha, Nat.lt_of_lt_of_le hlt hb.size, by rw [← hc]; exact hb.cell (p := ⟨b, off + j, none⟩) hlt⟩
theorem getD_mem {l : List Nat} {k : Nat} (h : k < l.length) : l.getD k 0 ∈ l := by
  rw [List.getD_eq_getElem?_getD, List.getElem?_eq_getElem h]; exact List.getElem_mem _
theorem count_step {l : List Nat} {k : Nat} (h : k < l.length) (x : Nat) : (l.take (k + 1)).count x = (l.take k).count x + if l.getD k 0 = x then 1 else 0 := by
  rw [List.take_succ_eq_append_getElem h, List.count_append, List.getD_eq_getElem?_getD, List.getElem?_eq_getElem h]
  by_cases e : l[k] = x
  · simp [e]
  · simp [e]
def MadeRow (w : World) (n : Nat) (f : Nat → Nat) (e : Ending) (w' : World) : Prop :=
  ∃ g, e = .returned (.slice (some ⟨g, 0, none⟩) n n) ∧ w'.ownsRow w.heap.size 3 1 (.slice (some ⟨g, 0, none⟩) n n) n (natR n f) ∧ Below w.heap.size w w'
set_option maxHeartbeats 1000000 in
set_option maxRecDepth 100000 in
theorem counts_any {w : World} {a : Option Addr} {c n : Nat} (l : List Nat) (h : U32At w a l) (hn : n ≤ 65536) (hl : l.length ≤ 1000000) :
    Calls Tryz.prog 112 #[.slice a l.length c, .int .i64 (n : Int)] w (MadeRow w n fun i => l.count (i + 1)) := by
  obtain ⟨i0, hi, hz0, hz1, hz2⟩ := info_parts i64sInfo
  have hni : (n : Int) ≤ 65536 := by omega
  have hni0 : (0 : Int) ≤ (n : Int) := by omega
  have HH := Lib.hid h
  obtain ⟨L, hL⟩ : ∃ L, l.length = L := ⟨_, rfl⟩
  have HL := Lib.hid hL
  rw [hL] at hl ⊢
  have hLi : (L : Int) ≤ 1000000 := by omega
  clear h hL
  go_enter Tryz.func112, Tryz.ntmps112
  go_wp2_with (refine wpList_make_full _ rfl (.tmp 7) (.tmp 7) 158 rfl w.heap.size 3 i0 (.int .i64 0) 1 Tryz.underlying158 hi hz0 hz1 .i64 .i64 (n : Int) (n : Int) n rfl rfl rfl rfl (by rw [hz2]; omega) (by unfold maxLen; omega) (Nat.le_refl _) ?_; intro w2 ho2 hg2)
  have hb2 : Below w.heap.size w w2 := (Below.refl _ _).grown hg2 (Nat.le_refl _) (fun k hk => by cases hk)
  rw [natR_zero] at ho2
  clear hg2
  go_loopw [6] (fun i wr => ∃ k : Nat, k ≤ L ∧ i = .int .i64 (k : Int) ∧ wr.ownsRow w.heap.size 3 1 (.slice (some ⟨w.heap.size, 0, none⟩) n n) n (natR n fun i => (l.take k).count (i + 1)) ∧ Below w.heap.size w wr) (fun i _ => L - (intOf i).toNat)
  case atStart => exact ⟨0, Nat.zero_le _, rfl, by simpa using ho2, hb2⟩
  case round =>
    clear ho2 hb2
    obtain ⟨k, hk, rfl, ho, hb⟩ := hrel
    have hs := hb.size
    by_cases hlt : k < L
    · have hkl : k < l.length := by rw [HL.out]; exact hlt
      have hki : (k : Int) < (L : Int) := by omega
      obtain ⟨b, off, rfl, hbl, hcell⟩ := (HH.out.below hb).cell k hkl
      have hx2 : l.getD k 0 < 4294967296 := HH.out.lt _ (getD_mem hkl)
      have hcs := fun x => count_step hkl x
      have HC := Lib.hid hcs
      clear hcs hkl
      generalize hX : l.getD k 0 = X at hcell hx2
      have HX := Lib.hid hX
      clear hX
      have hX4 : (X : Int) < 4294967296 := by omega
      have hkn : (0 : Int) ≤ (k : Int) := by omega
      by_cases hr : 1 ≤ X ∧ X ≤ n
      · obtain ⟨j, rfl⟩ : ∃ j, X = j + 1 := ⟨X - 1, by omega⟩
        have hjn : j < n := by omega
        have hji : (j : Int) < (n : Int) := by omega
        have hj1 : (1 : Int) ≤ (j : Int) + 1 := by omega
        have hjn2 : (j : Int) + 1 ≤ (n : Int) := by omega
        have hxw : ((j + 1 : Nat) : Int) = (j : Int) + 1 := by omega
        have hcj := (ho.cellAt j (by omega)).trans (natR_at _ hjn)
        have hfj := ho.frozenAt j
        have hct : (l.take k).count (j + 1) ≤ k := Nat.le_trans List.count_le_length (by simp; omega)
        have hst := (ho.stored j (.int .i64 (((l.take k).count (j + 1) : Nat) + 1 : Int))).1
        have hbs : Below w.heap.size w (wr.setCell ⟨w.heap.size, j, none⟩ (.int .i64 (((l.take k).count (j + 1) : Nat) + 1 : Int))) := hb.setCell (Nat.le_refl _) _
        have HS := Lib.hid hst
        have HB := Lib.hid hbs
        generalize hT : (l.take k).count (j + 1) = T at hcj hct HS HB
        have HT := Lib.hid hT
        have hTi : (T : Int) ≤ 1000000 := by omega
        have hTi0 : (0 : Int) ≤ (T : Int) := by omega
        clear hst hbs hb hT hr hct ho
        go_wp2
        refine ⟨⟨k + 1, by omega, by go_num, ?_, HB.out⟩, by simp [intOf]; omega⟩
        have h9 := HS.out
        rw [natR_set (i := j) _ _ (T + 1) (by omega)] at h9
        refine (congrArg (fun xs => World.ownsRow _ _ _ _ _ _ xs) (congrArg (natR n) (funext fun i => ?_))).mp h9
        rw [HC.out, HX.out]
        by_cases e : i = j
        · subst e; rw [if_pos rfl, if_pos rfl, HT.out]
        · rw [if_neg e, if_neg (by omega)]; rfl
      · have hsame : (natR n fun i => (l.take k).count (i + 1)) = natR n fun i => (l.take (k + 1)).count (i + 1) := by
          unfold natR
          refine List.map_congr_left fun i hi => ?_
          rw [List.mem_range] at hi
          show Value.int .i64 (((l.take k).count (i + 1) : Nat) : Int) = Value.int .i64 (((l.take (k + 1)).count (i + 1) : Nat) : Int)
          rw [HC.out, HX.out, if_neg (by omega)]
          rfl
        have HSM := Lib.hid hsame
        have HO := Lib.hid ho
        clear ho hsame
        by_cases h0 : X = 0
        · subst h0
          clear hr
          go_wp2
          exact ⟨⟨k + 1, by omega, by go_num, by rw [← HSM.out]; exact HO.out, hb⟩, by simp [intOf]; omega⟩
        · have h1 : (1 : Int) ≤ (X : Int) := by omega
          have h2 : ¬ (X : Int) ≤ (n : Int) := by omega
          clear hr h0
          go_wp2
          exact ⟨⟨k + 1, by omega, by go_num, by rw [← HSM.out]; exact HO.out, hb⟩, by simp [intOf]; omega⟩
    · obtain rfl : k = L := by omega
      rw [List.take_of_length_le (by rw [HL.out]; exact Nat.le_refl _)] at ho
      go_wp2
      go_ret
      exact ⟨_, rfl, ho, hb⟩
theorem ph_succ (t : Nat) (s : Sl) (x : Nat) : ph (t + 1) s x = ph t s x + if s.on = true ∧ kd s t = x then 1 else 0 := by
  unfold ph
  by_cases h : s.on = true
  · rw [if_pos h, if_pos h, List.range_succ, List.map_append, List.sum_append]
    simp [hit, h]
  · rw [if_neg h, if_neg h, if_neg (fun e => h e.1)]
theorem ph_zero (s : Sl) (x : Nat) : ph 0 s x = 0 := by unfold ph; simp
theorem ph_le (t : Nat) (s : Sl) (x : Nat) : ph t s x ≤ t := by
  induction t with
  | zero => rw [ph_zero]; exact Nat.le_refl _
  | succ t ih => rw [ph_succ]; split <;> omega
theorem eg_succ (S : Nat → Sl) (k x : Nat) : eg S (k + 1) x = eg S k x + ph 2 (S k) x := by
  unfold eg
  rw [List.range_succ, List.map_append, List.sum_append]
  simp
theorem eg_le (S : Nat → Sl) (k x : Nat) : eg S k x ≤ 2 * k := by
  induction k with
  | zero => unfold eg; simp
  | succ k ih => rw [eg_succ]; have := ph_le 2 (S k) x; omega
/-- the box of a dump -/
structure DBox (w : World) (q : Nat) (a b : Option Addr) (n c m d : Nat) : Prop where
  box : w.heap[q]? = some (.cells #[.slice a n c, .slice b m d] 33 (0, 0))
theorem DBox.new (w : World) (a b : Option Addr) (n c m d : Nat) : DBox (w.alloc (Obj.cells #[.slice a n c, .slice b m d] 33)) w.heap.size a b n c m d := ⟨heap_alloc_new w _⟩
section
variable {w w' : World} {q : Nat} {a b : Option Addr} {n c m d : Nat}
theorem DBox.below {B : Nat} (h : DBox w q a b n c m d) (hb : Below B w w') (hq : q < B) : DBox w' q a b n c m d := ⟨(hb.block q hq).trans h.box⟩
theorem DBox.cells (h : DBox w q a b n c m d) : w.cell? ⟨q, 0, none⟩ = some (.slice a n c) ∧ w.cell? ⟨q, 1, none⟩ = some (.slice b m d) := by
  refine ⟨?_, ?_⟩ <;> (rw [cell_of_row _ _ _ _ _ _ h.box]; rfl)
end
/-- the eleven cells of a slot -/
theorem SlotsAt.all {w : World} {a : Option Addr} {n : Nat} {S : Nat → Sl} (h : SlotsAt w a n S) {i : Nat} (hi : i < n) : ∃ b off, a = some ⟨b, off, none⟩ ∧ b < w.heap.size ∧
    w.cell? ⟨b, off + i * 11, none⟩ = some (.bool (S i).on) ∧ w.cell? ⟨b, off + i * 11 + 1, none⟩ = some (.int .i64 (S i).cnt) ∧ w.cell? ⟨b, off + i * 11 + 2, none⟩ = some (.int .u32 (S i).gen) ∧
    w.cell? ⟨b, off + i * 11 + 3, none⟩ = some (.int .i64 (S i).nd.key) ∧ w.cell? ⟨b, off + i * 11 + 4, none⟩ = some (.int .i64 (S i).nd.val) ∧ w.cell? ⟨b, off + i * 11 + 5, none⟩ = some (.int .u32 ((S i).nd.left : Int)) ∧
    w.cell? ⟨b, off + i * 11 + 6, none⟩ = some (.int .u32 ((S i).nd.right : Int)) ∧ w.cell? ⟨b, off + i * 11 + 7, none⟩ = some (.int .i64 (S i).nd.size) ∧ w.cell? ⟨b, off + i * 11 + 8, none⟩ = some (.int .i64 (S i).nd.sum) ∧
    w.cell? ⟨b, off + i * 11 + 9, none⟩ = some (.int .i64 (S i).nd.mn) ∧ w.cell? ⟨b, off + i * 11 + 10, none⟩ = some (.int .i64 (S i).nd.mx) := by
  obtain ⟨b, off, ha, hlt, hc⟩ := h.cell i hi
  exact ⟨b, off, ha, hlt, hc 0 _ rfl, hc 1 _ rfl, hc 2 _ rfl, hc 3 _ rfl, hc 4 _ rfl, hc 5 _ rfl, hc 6 _ rfl, hc 7 _ rfl, hc 8 _ rfl, hc 9 _ rfl, hc 10 _ rfl⟩
def EdgeRel (S : Nat → Sl) (n q : Nat) (w1 : World) (f : Nat → Nat) (wr : World) : Prop :=
  wr.ownsRow (q + 1) 3 1 (.slice (some ⟨q + 1, 0, none⟩) n n) n (natR n f) ∧ Below (q + 1) w1 wr
theorem EdgeRel.store {S : Nat → Sl} {n q : Nat} {w1 wr : World} {f g : Nat → Nat} (h : EdgeRel S n q w1 f wr) (j : Nat) (x : Int) (hx : x = ((g j : Nat) : Int)) (hs : q + 1 ≤ w1.heap.size) (hg : ∀ i, i < n → i ≠ j → g i = f i) :
    EdgeRel S n q w1 g (wr.setCell ⟨q + 1, j, none⟩ (.int .i64 x)) := by
  refine ⟨?_, h.2.setCell (Nat.le_refl _) _⟩
  have h1 := (h.1.stored j (.int .i64 x)).1
  rw [natR_set f x (g j) hx] at h1
  have e : natR n (fun i => if i = j then g j else f i) = natR n g := by
    unfold natR
    refine List.map_congr_left fun i hi => ?_
    rw [List.mem_range] at hi
    show Value.int .i64 (((if i = j then g j else f i : Nat)) : Int) = Value.int .i64 ((g i : Nat) : Int)
    by_cases e : i = j
    · rw [if_pos e, e]
    · rw [if_neg e, hg i hi e]
  rw [e] at h1
  exact h1
theorem EdgeRel.below {S : Nat → Sl} {n q : Nat} {w1 wr w' : World} {f : Nat → Nat} (h : EdgeRel S n q w1 f wr) (hb : Below wr.heap.size wr w') (hs : q + 1 ≤ w1.heap.size) : EdgeRel S n q w1 f w' :=
  ⟨row_below h.1 hb, h.2.trans (hb.mono (Nat.le_trans hs h.2.size))⟩
theorem kid_at {w : World} {kb t : Nat} {s : Sl} (h : w.heap[kb]? = some (.cells #[.int .u32 (s.nd.left : Int), .int .u32 (s.nd.right : Int)] 50 (0, 0))) (ht : t < 2) : w.cell? ⟨kb, t, none⟩ = some (.int .u32 ((kd s t : Nat) : Int)) := by
  obtain ⟨h0, h1⟩ := two_cells h
  rcases (show t = 0 ∨ t = 1 by omega) with rfl | rfl
  · exact h0
  · exact h1
theorem EdgeRel.same {S : Nat → Sl} {n q : Nat} {w1 wr : World} {f g : Nat → Nat} (h : EdgeRel S n q w1 f wr) (hg : ∀ i, i < n → g i = f i) : EdgeRel S n q w1 g wr := by
  refine ⟨?_, h.2⟩
  have e : natR n g = natR n f := by
    unfold natR
    refine List.map_congr_left fun i hi => ?_
    rw [List.mem_range] at hi
    show Value.int .i64 ((g i : Nat) : Int) = Value.int .i64 ((f i : Nat) : Int)
    rw [hg i hi]
  rw [e]
  exact h.1
set_option maxHeartbeats 2000000 in
set_option maxRecDepth 100000 in
theorem inEdges_any {w : World} {a b : Option Addr} {n c m d : Nat} {S : Nat → Sl} (h : SlotsAt w a n S) (hn : n ≤ 65536) :
    Calls Tryz.prog 110 #[.agg #[.slice a n c, .slice b m d]] w (MadeRow w n fun i => eg S n (i + 1)) := by
  obtain ⟨i0, hi, hz0, hz1, hz2⟩ := info_parts i64sInfo
  have hni : (n : Int) ≤ 65536 := by omega
  have hni0 : (0 : Int) ≤ (n : Int) := by omega
  have hb1 : Below w.heap.size w (w.alloc (Obj.cells #[Value.slice a n c, Value.slice b m d] 33)) := (Below.refl _ _).alloc (Nat.le_refl _) _
  have HB := Lib.hid hb1
  have HS := Lib.hid (h.below hb1)
  have HX := Lib.hid (DBox.new w a b n c m d)
  have hsz : (w.alloc (Obj.cells #[Value.slice a n c, Value.slice b m d] 33)).heap.size = w.heap.size + 1 := by simp
  have HZ := Lib.hid hsz
  obtain ⟨hc0, hc1⟩ := HX.out.cells
  clear hb1 h hsz
  go_enter Tryz.func110, Tryz.ntmps110
  go_upto_region 1 with fail
  generalize hW1 : w.alloc (Obj.cells #[Value.slice a n c, Value.slice b m d] 33) = w1 at *
  clear hW1
  generalize hQ : w.heap.size = q at *
  have HQ := Lib.hid hQ
  clear hQ
  go_wp2_with (refine wpList_make_full _ rfl (.tmp 9) (.tmp 9) 158 rfl (q + 1) 3 i0 (.int .i64 0) 1 Tryz.underlying158 hi hz0 hz1 .i64 .i64 (n : Int) (n : Int) n rfl rfl rfl rfl (by rw [hz2]; omega) (by unfold maxLen; omega) (Nat.le_of_eq HZ.out.symm) ?_; intro w2 ho2 hg2)
  rw [natR_zero, HZ.out] at ho2
  rw [HZ.out]
  have hb2 : Below (q + 1) w1 w2 := (Below.refl _ _).grown hg2 (Nat.le_of_eq HZ.out.symm) (fun k hk => by cases hk)
  have HE : Hid (EdgeRel S n q w1 (fun i => eg S 0 (i + 1)) w2) := ⟨by simpa [eg] using ho2, hb2⟩
  clear hg2 ho2 hb2 hc0 hc1
  go_loopw [4] (fun i wr => ∃ k : Nat, k ≤ n ∧ i = .int .i64 (k : Int) ∧ EdgeRel S n q w1 (fun i => eg S k (i + 1)) wr) (fun i _ => n - (intOf i).toNat)
  case atStart => exact ⟨0, Nat.zero_le _, rfl, HE.out⟩
  case round =>
    clear HE
    obtain ⟨k, hk, rfl, hE⟩ := hrel
    have hb := hE.2
    have hs := hb.size
    have hX := HX.out.below hb (by omega)
    obtain ⟨hc0, hc1⟩ := hX.cells
    by_cases hlt : k < n
    · have hki : (k : Int) < (n : Int) := by omega
      have hki0 : (0 : Int) ≤ (k : Int) := by omega
      have hS := HS.out.below (hb.mono (Nat.le_of_eq HZ.out))
      obtain ⟨b', off, rfl, hlb, d0, d1, d2, d3, d4, d5, d6, d7, d8, d9, d10⟩ := hS.all hlt
      obtain ⟨hl1, hl2⟩ := hS.kid k hlt
      have HE := Lib.hid hE
      have HSS := Lib.hid hS
      clear hS hE hX
      go_wp2_with fail
      refine (kids_any _ _ _ _ _ _ _ _ _ _ _ _).mono ?_
      rintro e w3 ⟨rfl, hb3⟩
      clear hc0 hc1 d0 d1 d2 d3 d4 d5 d6 d7 d8 d9 d10
      go_wp2
      have hE3 := HE.out.below hb3 (Nat.le_of_eq HZ.out.symm)
      have hal := (Below.refl w3.heap.size w3).alloc (Nat.le_refl _) (Obj.cells #[Value.int .u32 ((S k).nd.left : Int), .int .u32 ((S k).nd.right : Int)] 50)
      have hE4 := hE3.below hal (Nat.le_of_eq HZ.out.symm)
      have hkb : q + 1 < w3.heap.size := (row_lt hE3.1 (q + 1) rfl).2
      have hK := heap_alloc_new w3 (Obj.cells #[Value.int .u32 ((S k).nd.left : Int), .int .u32 ((S k).nd.right : Int)] 50)
      have HK : Hid (EdgeRel S n q w1 (fun i => eg S k (i + 1) + ph 0 (S k) (i + 1)) (w3.alloc (Obj.cells #[Value.int .u32 ((S k).nd.left : Int), .int .u32 ((S k).nd.right : Int)] 50)) ∧ (w3.alloc (Obj.cells #[Value.int .u32 ((S k).nd.left : Int), .int .u32 ((S k).nd.right : Int)] 50)).heap[w3.heap.size]? = some (Obj.cells #[Value.int .u32 ((S k).nd.left : Int), .int .u32 ((S k).nd.right : Int)] 50)) := ⟨hE4.same (fun i _ => by rw [ph_zero]; rfl), hK⟩
      generalize w3.alloc (Obj.cells #[Value.int .u32 ((S k).nd.left : Int), .int .u32 ((S k).nd.right : Int)] 50) = w4 at HK ⊢
      generalize w3.heap.size = kb at hkb HK ⊢
      clear hE3 hal hE4 hK hb3 hb hs hlb
      go_loopw [6] (fun i w5 => ∃ t : Nat, t ≤ 2 ∧ i = .int .i64 (t : Int) ∧ EdgeRel S n q w1 (fun i => eg S k (i + 1) + ph t (S k) (i + 1)) w5 ∧ w5.heap[kb]? = some (Obj.cells #[Value.int .u32 ((S k).nd.left : Int), .int .u32 ((S k).nd.right : Int)] 50)) (fun i _ => 2 - (intOf i).toNat)
      case atStart => exact ⟨0, by omega, rfl, HK.out.1, HK.out.2⟩
      case round =>
        clear HK
        obtain ⟨t, ht, rfl, hE, hK⟩ := hrel
        have hb := hE.2
        by_cases htl : t < 2
        · have hti : (t : Int) < 2 := by omega
          have hti0 : (0 : Int) ≤ (t : Int) := by omega
          obtain ⟨hc0, hc1⟩ := (HX.out.below hb (by omega)).cells
          obtain ⟨b2, off2, hbo, hlb, d0, _⟩ := (HS.out.below (hb.mono (Nat.le_of_eq HZ.out))).all hlt
          simp only [Option.some.injEq, Addr.mk.injEq, and_true] at hbo
          obtain ⟨rfl, rfl⟩ := hbo
          have hkt := kid_at (s := S k) hK htl
          have hX4 : (kd (S k) t) < 4294967296 := by unfold kd; split <;> assumption
          have hph := fun x => ph_succ t (S k) x
          have HP := Lib.hid hph
          have HKB := Lib.hid hK
          clear hph hK hb hc1
          generalize hXX : kd (S k) t = X at hkt hX4
          have HXX := Lib.hid hXX
          clear hXX
          have hXi : (X : Int) < 4294967296 := by omega
          by_cases hon : (S k).on = true ∧ 1 ≤ X ∧ X ≤ n
          · obtain ⟨hon, hx1, hx2⟩ := hon
            obtain ⟨j, rfl⟩ : ∃ j, X = j + 1 := ⟨X - 1, by omega⟩
            have HON := Lib.hid hon
            rw [hon] at d0
            have hjn : j < n := by omega
            have hji : (j : Int) < (n : Int) := by omega
            have hj1 : (1 : Int) ≤ (j : Int) + 1 := by omega
            have hjn2 : (j : Int) + 1 ≤ (n : Int) := by omega
            have hxw : ((j + 1 : Nat) : Int) = (j : Int) + 1 := by omega
            have hcj := (hE.1.cellAt j (by omega)).trans (natR_at _ hjn)
            have hfj := hE.1.frozenAt j
            have hle := eg_le S k (j + 1)
            have hle2 := ph_le t (S k) (j + 1)
            have HE := Lib.hid hE
            generalize hT : eg S k (j + 1) + ph t (S k) (j + 1) = T at hcj
            have HT := Lib.hid hT
            have hTi : (T : Int) ≤ 1000000 := by omega
            have hTi0 : (0 : Int) ≤ (T : Int) := by omega
            clear hT hE hon hx1 hx2 hle hle2
            go_wp2
            refine ⟨⟨t + 1, by omega, by go_num, HE.out.store j _ ?_ (Nat.le_of_eq HZ.out.symm) ?_, (heap_setCell_other _ _ _ _ (by show kb ≠ q + 1; omega)).trans HKB.out⟩, by simp [intOf]; omega⟩
            · rw [HP.out, if_pos ⟨HON.out, HXX.out⟩, ← Nat.add_assoc, HT.out]; omega
            · intro i hi hne
              rw [HP.out, if_neg (fun e => hne (by have := HXX.out.symm.trans e.2; omega))]; rfl
          · have hsame : EdgeRel S n q w1 (fun i => eg S k (i + 1) + ph (t + 1) (S k) (i + 1)) _ := hE.same (fun i hi => by
              rw [HP.out, if_neg (fun e => hon ⟨e.1, by have := HXX.out.symm.trans e.2; omega, by have := HXX.out.symm.trans e.2; omega⟩)]; rfl)
            have HSM := Lib.hid hsame
            clear hsame hE
            cases ho : (S k).on
            · rw [ho] at d0
              clear ho hon
              go_wp2
              exact ⟨⟨t + 1, by omega, by go_num, HSM.out, HKB.out⟩, by simp [intOf]; omega⟩
            · rw [ho] at d0
              by_cases hx0 : X = 0
              · subst hx0
                clear ho hon
                go_wp2
                exact ⟨⟨t + 1, by omega, by go_num, HSM.out, HKB.out⟩, by simp [intOf]; omega⟩
              · have h1 : (1 : Int) ≤ (X : Int) := by omega
                have h2 : ¬ (X : Int) ≤ (n : Int) := by
                  intro h3; exact hon ⟨ho, by omega, by omega⟩
                clear ho hon hx0
                go_wp2
                exact ⟨⟨t + 1, by omega, by go_num, HSM.out, HKB.out⟩, by simp [intOf]; omega⟩
        · obtain rfl : t = 2 := by omega
          have HEE := Lib.hid hE
          clear hE hK hb
          go_wp2
          exact ⟨⟨k + 1, by omega, by go_num, HEE.out.same (fun i _ => by rw [eg_succ])⟩, by simp [intOf]; omega⟩
    · obtain rfl : k = n := by omega
      have HE := Lib.hid hE
      have HBB := Lib.hid hb
      clear hE hX hc1
      go_wp2
      go_ret
      exact ⟨_, rfl, row_mono HE.out.1 (by rw [HQ.out]; omega), by rw [HQ.out]; exact HB.out.trans (HBB.out.mono (by omega))⟩
end Go.Proofs.YtfihklpofmcfgaaGreat
namespace Go.Proofs.YtfihklpofmcfgaaGreat
inductive Rch (S : Nat → Sl) (n : Nat) (rs : List Nat) : Nat → Prop where
  | root (x : Nat) : x ∈ rs → Al S n x → Rch S n rs x
  | kid (x t : Nat) : Rch S n rs x → t < 2 → Al S n (kd (S (x - 1)) t) → Rch S n rs (kd (S (x - 1)) t)
theorem Rch.al {S : Nat → Sl} {n : Nat} {rs : List Nat} {x : Nat} (h : Rch S n rs x) : Al S n x := by
  cases h with
  | root _ _ h => exact h
  | kid _ _ _ _ h => exact h
def setB (B : Nat → Bool) (j : Nat) : Nat → Bool := fun i => if i = j then true else B i
structure MInv (S : Nat → Sl) (n : Nat) (rs : List Nat) (B : Nat → Bool) (st : List Nat) : Prop where
  sound : ∀ j, j < n → B j = true → Rch S n rs (j + 1)
  stack : ∀ x ∈ st, Al S n x → Rch S n rs x
  roots : ∀ x ∈ rs, Al S n x → B (x - 1) = true ∨ x ∈ st
  kids : ∀ j, j < n → B j = true → ∀ t, t < 2 → Al S n (kd (S j) t) → B (kd (S j) t - 1) = true ∨ kd (S j) t ∈ st
theorem MInv.start (S : Nat → Sl) (n : Nat) (rs : List Nat) : MInv S n rs (fun _ => false) rs :=
  ⟨(fun j _ h => (by cases h)), (fun x h1 h2 => .root x h1 h2), (fun x h _ => .inr h), (fun j _ h => (by cases h))⟩
theorem MInv.skip {S : Nat → Sl} {n : Nat} {rs : List Nat} {B : Nat → Bool} {t : List Nat} {x : Nat} (h : MInv S n rs B (t ++ [x])) (hx : Al S n x → B (x - 1) = true) : MInv S n rs B t := by
  have key : ∀ y, Al S n y → (B (y - 1) = true ∨ y ∈ t ++ [x]) → B (y - 1) = true ∨ y ∈ t := fun y hy h1 => by
    rcases h1 with h1 | h1
    · exact .inl h1
    · rcases List.mem_append.1 h1 with h2 | h2
      · exact .inr h2
      · simp at h2; subst h2; exact .inl (hx hy)
  exact ⟨h.sound, fun y hy => h.stack y (by simp [hy]), fun y h1 h2 => key y h2 (h.roots y h1 h2), fun j h1 h2 u hu h3 => key _ h3 (h.kids j h1 h2 u hu h3)⟩
theorem MInv.mark {S : Nat → Sl} {n : Nat} {rs : List Nat} {B : Nat → Bool} {t : List Nat} {j : Nat} (h : MInv S n rs B (t ++ [j + 1])) (hx : Al S n (j + 1)) : MInv S n rs (setB B j) (t ++ [(S j).nd.left, (S j).nd.right]) := by
  have hr : Rch S n rs (j + 1) := h.stack _ (by simp) hx
  have hB : ∀ i, B i = true → setB B j i = true := fun i hi => by unfold setB; split <;> simp [hi]
  have key : ∀ y, Al S n y → (B (y - 1) = true ∨ y ∈ t ++ [j + 1]) → setB B j (y - 1) = true ∨ y ∈ t ++ [(S j).nd.left, (S j).nd.right] := fun y hy h1 => by
    rcases h1 with h1 | h1
    · exact .inl (hB _ h1)
    · rcases List.mem_append.1 h1 with h2 | h2
      · exact .inr (by simp [h2])
      · simp at h2; subst h2; exact .inl (by unfold setB; simp)
  refine ⟨fun i hi hb => ?_, fun y hy ha => ?_, fun y h1 h2 => key y h2 (h.roots y h1 h2), fun i hi hb u hu h3 => ?_⟩
  · unfold setB at hb
    by_cases e : i = j
    · subst e; exact hr
    · rw [if_neg e] at hb; exact h.sound i hi hb
  · rcases List.mem_append.1 hy with h2 | h2
    · exact h.stack y (by simp [h2]) ha
    · simp at h2
      rcases h2 with rfl | rfl
      · exact Rch.kid (S := S) (j + 1) 0 hr (by decide) ha
      · exact Rch.kid (S := S) (j + 1) 1 hr (by decide) ha
  · unfold setB at hb
    by_cases e : i = j
    · subst e
      refine .inr ?_
      unfold kd
      split <;> simp
    · rw [if_neg e] at hb; exact key _ h3 (h.kids i hi hb u hu h3)
theorem MInv.done {S : Nat → Sl} {n : Nat} {rs : List Nat} {B : Nat → Bool} (h : MInv S n rs B []) {j : Nat} (hj : j < n) : B j = true ↔ Rch S n rs (j + 1) := by
  refine ⟨h.sound j hj, fun hr => ?_⟩
  have key : ∀ y, Rch S n rs y → B (y - 1) = true := fun y hy => by
    induction hy with
    | root x h1 h2 =>
      rcases h.roots x h1 h2 with h3 | h3
      · exact h3
      · cases h3
    | kid x t h1 h2 h3 ih =>
      have h4 := h1.al
      obtain ⟨h5, h6, _⟩ := h4
      rcases h.kids (x - 1) (by omega) ih t h2 h3 with h7 | h7
      · exact h7
      · cases h7
  exact key _ hr
/-- how many are not marked -/
def um : Nat → (Nat → Bool) → Nat
  | 0, _ => 0
  | n + 1, B => um n B + if B n = true then 0 else 1
theorem um_le (B : Nat → Bool) : ∀ n, um n B ≤ n
  | 0 => Nat.le_refl _
  | n + 1 => by unfold um; have := um_le B n; split <;> omega
theorem um_out (B : Nat → Bool) (j : Nat) : ∀ n, n ≤ j → um n (setB B j) = um n B
  | 0, _ => rfl
  | n + 1, h => by
    unfold um
    rw [um_out B j n (by omega)]
    have : setB B j n = B n := by unfold setB; rw [if_neg (by omega)]
    rw [this]
theorem um_set (B : Nat → Bool) {j : Nat} (hb : B j = false) : ∀ n, j < n → um n (setB B j) + 1 = um n B
  | 0, h => by omega
  | n + 1, h => by
    unfold um
    by_cases e : j = n
    · subst e
      rw [um_out B j j (Nat.le_refl _), hb]
      have : setB B j j = true := by unfold setB; simp
      rw [this]
      simp
    · have ih := um_set B hb n (by omega)
      have : setB B j n = B n := by unfold setB; rw [if_neg (by omega)]
      rw [this]
      omega
open Go.RowKit
theorem bInfo : (Tryz.prog.info? 4).map (fun i => (i.zero, i.size, i.bytes)) = some (some (.bool false), 1, 1) := by kernel_rfl
def boolR (n : Nat) (B : Nat → Bool) : List Value := (List.range n).map fun i => .bool (B i)
theorem boolR_at {n i : Nat} (B : Nat → Bool) (h : i < n) : (boolR n B)[i]? = some (.bool (B i)) := by simp [boolR, h]
theorem boolR_zero (n : Nat) : (madeCells (Value.bool false).cells (n * 1)).toList = boolR n fun _ => false := by
  rw [Nat.mul_one]
  refine (toList_madeCells_one (.bool false) n).trans ?_
  unfold boolR
  simp [List.map_const']
theorem boolR_set {n : Nat} (B : Nat → Bool) (i : Nat) : (boolR n B).set i (.bool true) = boolR n (setB B i) := by
  apply List.ext_getElem?
  intro j
  unfold boolR setB
  rw [List.getElem?_set]
  by_cases hj : j < n
  · by_cases e : i = j
    · subst e; simp [hj]
    · have e2 : ¬ j = i := fun h => e h.symm
      simp [hj, e, e2]
  · by_cases e : i = j
    · subst e; simp [hj]
    · simp [hj, e]
theorem u32s_len (l : List Nat) : (u32s l).length = l.length := by simp [u32s]
theorem u32s_ones (l : List Nat) : ∀ u ∈ u32s l, u.oneCell' = true := by
  intro u hu
  unfold u32s at hu
  obtain ⟨i, _, rfl⟩ := List.mem_map.1 hu
  rfl
/-- append of a slice that reads as l to a row of the call's own -/
theorem wpList_append_at {P : Program} {w : World} {ops : Array Oper} {rest : List Oper} {o : Oper} {a : Act} {Q : Exit → Act → World → Prop} (hgd : o.guard = none) (s x : Operand) (t : TypeId)
    (ho : o.op = .call { callee := .builtin .append, args := #[s, x], argTypes := #[t, t] })
    (base : Nat) (e : TypeId) (i : TypeInfo) (z : Value) (bytes : Nat) (ht : P.underlying t = some (.slice e)) (hi : P.info? e = some i) (hz : i.zero = some z)
    (hsize : i.size = 1) (hby : i.bytes = bytes) (hzs : z.cells.size = 1)
    (v : Value) (n : Nat) (xs : List Value) (hs : a.eval s = v) (hown : w.ownsRow base e 1 v n xs)
    (ad : Option Addr) (c : Nat) (l : List Nat) (m : Nat) (hm : m = l.length) (hx : a.eval x = .slice ad m c) (hrow : U32At w ad l)
    (h63 : n + m ≤ maxLen) (hbytes : (n + m) * bytes ≤ 140737488355328) (hbase : base ≤ w.heap.size)
    (h : ∀ v' w', w'.ownsRow base e 1 v' (n + m) (xs ++ u32s l) → w.grownBy w' v.ownBlock → wpList P ops Q rest (a.put o.dst v') w') : wpList P ops Q (o :: rest) a w := by
  refine wpList_plain hgd fun _ hK => ?_
  have hK2 : ∀ v' w', w'.ownsRow base e 1 v' (n + m) (xs ++ u32s l) → w.grownBy w' v.ownBlock → _ := fun v' w' h2 h3 => hK _ _ (h v' w' h2 h3)
  subst hm
  cases ad with
  | some x0 =>
    refine wp_append_own w s x t ho base e i z 1 bytes ht hi hz hsize hby hzs (by decide) v n xs hs hown x0 l.length c (u32s l) hx (by rw [u32s_len]; omega) ?_ (u32s_ones l) h63 hbytes hbase fun v' w' h2 h3 _ => hK2 v' w' h2 h3
    intro j u hu
    have hj : j < l.length := by have := (List.getElem?_eq_some_iff.1 hu).1; rwa [u32s_len] at this
    obtain ⟨b, off, hb, _, hc⟩ := hrow.cell j hj
    simp only [Option.some.injEq] at hb
    subst hb
    rw [add_at, hc, ← hu]
    simp [u32s, List.getD_eq_getElem?_getD, hj]
  | none =>
    have hl : l = [] := by
      cases l with
      | nil => rfl
      | cons y t => obtain ⟨_, _, hb, _⟩ := hrow.cell 0 (by simp); cases hb
    subst hl
    have hrun := run_append_owned_none (P := P) (w := w) base t o.type e i 1 ht hi v n xs hown
    unfold Oper.wp
    simp only [List.length_nil] at hx
    have hc0 : ∀ c', (Builtin.append_ #[t, t] o.type #[v, .slice none 0 c']).run P w = .ok v w := fun c' => by
      refine Eq.trans ?_ (run_append_owned_none (P := P) (w := w) base t o.type e i 1 ht hi v n xs hown)
      rfl
    simp [execOp, ho, resolve, invoke, builtin, hs, hx, hc0, Result.andThen]
    exact hK2 _ _ (by simpa [u32s] using hown) (World.grownBy.refl _ _)
def MadeMarks (w : World) (S : Nat → Sl) (n : Nat) (rs : List Nat) (e : Ending) (w' : World) : Prop :=
  ∃ g B, e = .returned (.slice (some ⟨g, 0, none⟩) n n) ∧ w'.ownsRow w.heap.size 4 1 (.slice (some ⟨g, 0, none⟩) n n) n (boolR n B) ∧ (∀ j, j < n → (B j = true ↔ Rch S n rs (j + 1))) ∧ Below w.heap.size w w'
/-- the marks and the stack in memory -/
structure MarkRel (S : Nat → Sl) (n : Nat) (rs : List Nat) (q : Nat) (w1 : World) (gk : Nat) (x : Value) (B : Nat → Bool) (st : List Nat) (wr : World) : Prop where
  inv : MInv S n rs B st
  row : wr.ownsRow (q + 1) 4 1 (.slice (some ⟨q + 1, 0, none⟩) n n) n (boolR n B)
  val : ∃ a c, x = .slice a st.length c
  work : wr.ownsRow (q + 2) 26 1 x st.length (u32s st)
  lt : ∀ y ∈ st, y < 4294967296
  num : 3 * um n B + st.length ≤ gk
  big : gk ≤ 2000000
  below : Below (q + 1) w1 wr
section
variable {S : Nat → Sl} {n q gk gk' : Nat} {rs : List Nat} {w1 wr w' : World} {x x' : Value} {B : Nat → Bool} {st t : List Nat}
theorem MarkRel.from (h : MarkRel S n rs q w1 gk x B st wr) (hb : Below wr.heap.size wr w') (hs : q + 1 ≤ w1.heap.size) : MarkRel S n rs q w1 gk x B st w' :=
  ⟨h.inv, row_below h.row hb, h.val, row_below h.work hb, h.lt, h.num, h.big, h.below.trans (hb.mono (Nat.le_trans hs h.below.size))⟩
theorem MarkRel.pop {a : Option Addr} {c y : Nat} (h : MarkRel S n rs q w1 gk (.slice a (t.length + 1) c) B (t ++ [y]) wr) (hy : Al S n y → B (y - 1) = true) (hg : gk' < gk) (hg2 : 3 * um n B + t.length ≤ gk') : MarkRel S n rs q w1 gk' (.slice a t.length c) B t wr := by
  have hw := h.work
  rw [List.length_append] at hw
  obtain ⟨g, rfl⟩ := row_head hw (by simp)
  have h1 := row_cut hw (m := t.length) (by simp)
  rw [show (u32s (t ++ [y])).take t.length = u32s t by rw [u32s_app]; simp [u32s]] at h1
  exact ⟨h.inv.skip hy, h.row, ⟨_, _, rfl⟩, h1, fun z hz => h.lt z (by simp [hz]), hg2, by have := h.big; omega, h.below⟩
/-- a slot was marked, its children are not yet on the stack -/
structure MarkMid (n q : Nat) (w1 : World) (B : Nat → Bool) (x : Value) (t : List Nat) (wr : World) : Prop where
  row : wr.ownsRow (q + 1) 4 1 (.slice (some ⟨q + 1, 0, none⟩) n n) n (boolR n B)
  work : wr.ownsRow (q + 2) 26 1 x t.length (u32s t)
  below : Below (q + 1) w1 wr
theorem MarkMid.from (h : MarkMid n q w1 B x t wr) (hb : Below wr.heap.size wr w') (hs : q + 1 ≤ w1.heap.size) : MarkMid n q w1 B x t w' :=
  ⟨row_below h.row hb, row_below h.work hb, h.below.trans (hb.mono (Nat.le_trans hs h.below.size))⟩
theorem MarkRel.mid {a : Option Addr} {c j y : Nat} (h : MarkRel S n rs q w1 gk (.slice a (t ++ [y]).length c) B (t ++ [y]) wr) : MarkMid n q w1 (setB B j) (.slice a t.length c) t (wr.setCell ⟨q + 1, j, none⟩ (.bool true)) := by
  have hw := h.work
  rw [List.length_append] at hw
  obtain ⟨g, rfl⟩ := row_head hw (by simp)
  have h1 := row_cut hw (m := t.length) (by simp)
  rw [show (u32s (t ++ [y])).take t.length = u32s t by rw [u32s_app]; simp [u32s]] at h1
  refine ⟨?_, row_keep h1 fun k hk => heap_setCell_other _ _ _ _ ?_, h.below.setCell (Nat.le_refl _) _⟩
  · rw [← boolR_set]; exact (h.row.stored j _).1
  · have := row_from h1 k hk
    show k ≠ q + 1
    omega
theorem MarkMid.push {v : Value} {j : Nat} {w2 : World} (h : MarkMid n q w1 (setB B j) x t wr) (hr : MarkRel S n rs q w1 gk x' B (t ++ [j + 1]) w2) (hj : Al S n (j + 1)) (hb : B j = false) (hk : (S j).nd.left < 4294967296 ∧ (S j).nd.right < 4294967296)
    (hg : wr.grownBy w' x.ownBlock) (hv : w'.ownsRow (q + 2) 26 1 v (t.length + 2) (u32s t ++ [.int .u32 ((S j).nd.left : Int), .int .u32 ((S j).nd.right : Int)])) (h0 : 0 < gk) (hq : q + 1 ≤ w1.heap.size) :
    MarkRel S n rs q w1 (gk - 1) v (setB B j) (t ++ [(S j).nd.left, (S j).nd.right]) w' := by
  have hl : (t ++ [(S j).nd.left, (S j).nd.right]).length = t.length + 2 := by simp
  obtain ⟨a, c, hvv⟩ := row_val hv
  have hnum := hr.num
  rw [List.length_append] at hnum
  have hu := um_set B hb n (by have := hj.2.1; omega)
  refine ⟨hr.inv.mark hj, row_keep h.row fun k hk => hg.block k (row_lt h.row k hk).2 fun e => ?_, ⟨a, c, by rw [hl]; exact hvv⟩, ?_, fun y hy => ?_, ?_, by have := hr.big; omega, h.below.grown hg (Nat.le_trans hq h.below.size) fun k hk => ?_⟩
  · simp [Value.ownBlock] at hk; have := row_from h.work k e.symm; omega
  · rw [hl, u32s_app]; exact hv
  · rcases List.mem_append.1 hy with h1 | h1
    · exact hr.lt y (by simp [h1])
    · simp at h1; rcases h1 with rfl | rfl
      · exact hk.1
      · exact hk.2
  · rw [hl]; simp at hnum; omega
  · have := row_from h.work k hk; omega
end
set_option maxHeartbeats 4000000 in
set_option maxRecDepth 100000 in
theorem marks_any {w : World} {a b ra : Option Addr} {n c m d rc : Nat} {S : Nat → Sl} (rs : List Nat) (h : SlotsAt w a n S) (hr : U32At w ra rs) (hn : n ≤ 65536) (hl : rs.length ≤ 1000000) :
    Calls Tryz.prog 111 #[.agg #[.slice a n c, .slice b m d], .slice ra rs.length rc] w (MadeMarks w S n rs) := by
  obtain ⟨i0, hi, hz0, hz1, hz2⟩ := info_parts bInfo
  obtain ⟨i1, ji, jz0, jz1, jz2⟩ := info_parts uInfo
  have hni : (n : Int) ≤ 65536 := by omega
  have hni0 : (0 : Int) ≤ (n : Int) := by omega
  have hb1 : Below w.heap.size w (w.alloc (Obj.cells #[Value.slice a n c, Value.slice b m d] 33)) := (Below.refl _ _).alloc (Nat.le_refl _) _
  have HB := Lib.hid hb1
  have HS := Lib.hid (h.below hb1)
  have HR := Lib.hid (hr.below hb1)
  have HX := Lib.hid (DBox.new w a b n c m d)
  have hsz : (w.alloc (Obj.cells #[Value.slice a n c, Value.slice b m d] 33)).heap.size = w.heap.size + 1 := by simp
  have HZ := Lib.hid hsz
  obtain ⟨hc0, hc1⟩ := HX.out.cells
  obtain ⟨L, hL⟩ : ∃ L, rs.length = L := ⟨_, rfl⟩
  have HL := Lib.hid hL
  rw [hL] at hl ⊢
  have hLi : (L : Int) ≤ 1000000 := by omega
  clear hb1 h hr hsz hL
  go_enter Tryz.func111, Tryz.ntmps111
  go_upto_region 1 with fail
  generalize hW1 : w.alloc (Obj.cells #[Value.slice a n c, Value.slice b m d] 33) = w1 at *
  clear hW1
  generalize hQ : w.heap.size = q at *
  have HQ := Lib.hid hQ
  clear hQ
  go_upto_region 2 with (refine wpList_make_full _ rfl (.tmp 11) (.tmp 11) 160 rfl (q + 1) 4 i0 (.bool false) 1 Tryz.underlying160 hi hz0 hz1 .i64 .i64 (n : Int) (n : Int) n rfl rfl rfl rfl (by rw [hz2]; omega) (by unfold maxLen; omega) (Nat.le_of_eq HZ.out.symm) ?_; intro w2 ho2 hg2; rw [HZ.out])
  rw [boolR_zero, HZ.out] at ho2
  have hb2 : Below (q + 1) w1 w2 := (Below.refl _ _).grown hg2 (Nat.le_of_eq HZ.out.symm) (fun k hk => by cases hk)
  have hs2 : q + 2 ≤ w2.heap.size := (row_lt ho2 (q + 1) rfl).2
  have hr2 := HR.out.below (hb2.mono (Nat.le_of_eq HZ.out))
  clear hg2
  go_upto_region 3 with (at_builtin; refine wpList_append_at rfl (.const (.slice none 0 0)) (.tmp 13) 31 rfl (q + 2) 26 i1 (.int .u32 0) 4 Tryz.underlying31 ji jz0 jz1 jz2 rfl (.slice none 0 0) 0 [] rfl (World.ownsRow_nil _ _ _ _) ra rc rs L HL.out.symm rfl hr2 (by unfold maxLen; omega) (by omega) hs2 ?_; intro v3 w3 ho3 hg3)
  rw [Nat.zero_add, List.nil_append] at ho3
  have hb3 : Below (q + 2) w2 w3 := (Below.refl _ _).grown hg3 hs2 (fun k hk => by cases hk)
  obtain ⟨a3, c3, hv3⟩ := row_val ho3
  have HM : Hid (MarkRel S n rs q w1 (3 * n + L) v3 (fun _ => false) rs w3) := by
    refine ⟨MInv.start S n rs, row_keep ho2 fun k hk => ?_, ⟨a3, c3, by rw [HL.out]; exact hv3⟩, by rw [HL.out]; exact ho3, HR.out.lt, ?_, by omega, hb2.trans (hb3.mono (by omega))⟩
    · simp [Value.ownBlock] at hk; subst hk; exact hb3.block _ (by omega)
    · have := um_le (fun _ => false) n; rw [HL.out]; omega
  clear ho2 hb2 hs2 hr2 ho3 hb3 hv3 hg3 hc0 hc1
  go_wp2_with fail
  go_loopg [6] (3 * n + L) (fun k x wr => ∃ B st, MarkRel S n rs q w1 k x B st wr)
  case atStart => exact ⟨_, _, HM.out⟩
  case round =>
    clear HM
    obtain ⟨B, st, hM⟩ := hrel
    have hb := hM.below
    obtain ⟨xa, xc, rfl⟩ := hM.val
    rcases List.eq_nil_or_concat st with rfl | ⟨t, y, rfl⟩
    · have HMM := Lib.hid hM
      clear hM hb
      rw [show ([] : List Nat).length = 0 from rfl]
      go_wp2
      go_ret
      exact ⟨_, B, rfl, row_mono HMM.out.row (by rw [HQ.out]; omega), fun j hj => HMM.out.inv.done hj, by rw [HQ.out]; exact HB.out.trans (HMM.out.below.mono (by omega))⟩
    · rw [List.concat_eq_append] at *
      obtain ⟨T, hT⟩ : ∃ T, t.length = T := ⟨_, rfl⟩
      have hTl : (t ++ [y]).length = T + 1 := by rw [List.length_append, hT]; rfl
      have hw := hM.work
      rw [hTl] at hw
      obtain ⟨g, rfl⟩ := row_head hw (by omega)
      have hcap := row_caps hw
      have hcy := hw.cellAt T (by omega)
      rw [← hT, u32s_last, hT] at hcy
      have hy4 : y < 4294967296 := hM.lt y (by simp)
      have hTb : T + 1 ≤ 2000000 := by have h8 := hM.num; have h9 := hM.big; rw [hTl] at h8; omega
      have hTi : (T : Int) + 1 ≤ 2000000 := by omega
      have hTi0 : (0 : Int) ≤ (T : Int) := by omega
      have hxc : (T : Int) + 1 ≤ (xc : Int) := by omega
      have hxc2 : (xc : Int) ≤ 9223372036854775807 := by have := hcap.2; unfold maxLen at this; omega
      have hX := HX.out.below hb (by omega)
      obtain ⟨hc0, hc1⟩ := hX.cells
      have hSS := HS.out.below (hb.mono (Nat.le_of_eq HZ.out))
      have HMM := Lib.hid hM
      have HTT := Lib.hid hT
      have HSS := Lib.hid hSS
      have HTL := Lib.hid hTl
      rw [hTl]
      clear hM hw hcap hT hTb hX hSS hTl
      go_wp2_with fail
      refine (dallocated_any HSS.out hn hy4).mono ?_
      rintro e w4 ⟨rfl, hb4⟩
      have hM4 := HMM.out.from hb4 (Nat.le_of_eq HZ.out.symm)
      have hbb := hM4.below
      clear hcy hc0 hc1
      have hnum := HMM.out.num
      rw [HTL.out] at hnum
      by_cases hal : Al S n y
      · rw [show decide (1 ≤ y ∧ y ≤ n ∧ (S (y - 1)).on = true) = true from decide_eq_true hal]
        obtain ⟨j, rfl⟩ : ∃ j, y = j + 1 := ⟨y - 1, by have := hal.1; omega⟩
        have hjn : j < n := by have := hal.2.1; omega
        have hji : (j : Int) < (n : Int) := by omega
        have hj0 : (0 : Int) ≤ (j : Int) := by omega
        have hyi : ((j + 1 : Nat) : Int) = (j : Int) + 1 := by omega
        have hcB := (hM4.row.cellAt j (by omega)).trans (boolR_at B hjn)
        have hfB := hM4.row.frozenAt j
        have HAL := Lib.hid hal
        have HM4 := Lib.hid hM4
        have HN := Lib.hid hnum
        clear hal hM4 hb4 hnum hb
        cases hBj : B j
        · rw [hBj] at hcB
          have HBJ := Lib.hid hBj
          clear hBj
          have hMid := HM4.out.mid (j := j)
          rw [HTT.out] at hMid
          go_upto_region 8 with fail
          clear hcB hfB hbb
          have hbb := hMid.below
          have HMid := Lib.hid hMid
          generalize w4.setCell ⟨q + 1, j, none⟩ (.bool true) = w5 at HMid hbb ⊢
          obtain ⟨hc0, hc1⟩ := (HX.out.below hbb (by omega)).cells
          obtain ⟨b', off, rfl, hlb, d0, d1, d2, d3, d4, d5, d6, d7, d8, d9, d10⟩ := (HS.out.below (hbb.mono (Nat.le_of_eq HZ.out))).all hjn
          clear hMid hbb
          go_wp2_with fail
          refine (kids_any _ _ _ _ _ _ _ _ _ _ _ _).mono ?_
          rintro e w6 ⟨rfl, hb6⟩
          clear hc0 hc1 d0 d1 d2 d3 d4 d5 d6 d7 d8 d9 d10
          have hM6 := HMid.out.from hb6 (Nat.le_of_eq HZ.out.symm)
          have hal7 := (Below.refl w6.heap.size w6).alloc (Nat.le_refl _) (Obj.cells #[Value.int .u32 ((S j).nd.left : Int), .int .u32 ((S j).nd.right : Int)] 50)
          have hM7 := hM6.from hal7 (Nat.le_of_eq HZ.out.symm)
          have hK := heap_alloc_new w6 (Obj.cells #[Value.int .u32 ((S j).nd.left : Int), .int .u32 ((S j).nd.right : Int)] 50)
          go_upto_region 9 with fail
          generalize w6.alloc (Obj.cells #[Value.int .u32 ((S j).nd.left : Int), .int .u32 ((S j).nd.right : Int)] 50) = w7 at hM7 hK ⊢
          clear hM6 hal7 hb6 hlb
          generalize w6.heap.size = kb at hK ⊢
          obtain ⟨k0, k1⟩ := two_cells hK
          have hal8 := (Below.refl w7.heap.size w7).alloc (Nat.le_refl _) (Obj.cells #[Value.int .u32 ((S j).nd.left : Int), .int .u32 ((S j).nd.right : Int)] 26)
          have hM8 := hM7.from hal8 (Nat.le_of_eq HZ.out.symm)
          have hs8 : q + 2 ≤ (w7.alloc (Obj.cells #[Value.int .u32 ((S j).nd.left : Int), .int .u32 ((S j).nd.right : Int)] 26)).heap.size := (row_lt hM8.row (q + 1) rfl).2
          have HM8 := Lib.hid hM8
          have hwk := hM8.work
          rw [HTT.out] at hwk
          clear hM7 hal8 hM8 hK
          go_wp2_with (at_builtin; refine wpList_append_own _ rfl (.tmp 51) (.tmp 56) 31 rfl (q + 2) 26 i1 (.int .u32 0) 1 4 Tryz.underlying31 ji jz0 jz1 jz2 rfl (by decide) _ T (u32s t) rfl hwk ⟨w7.heap.size, 0, none⟩ 2 2 [.int .u32 ((S j).nd.left : Int), .int .u32 ((S j).nd.right : Int)] rfl rfl (cell_new2 _ _ _ _) (one_cell2 _ _ _) (by unfold maxLen; omega) (by omega) hs8 ?_; intro v9 w9 ho9 hg9 _)
          rw [← HTT.out] at ho9
          go_roundg (gk - 1)
          case measure => have := HN.out; omega
          case rel => exact ⟨setB B j, _, HM8.out.push HM4.out HAL.out HBJ.out (HS.out.kid j hjn) hg9 ho9 (by have := HN.out; omega) (Nat.le_of_eq HZ.out.symm)⟩
        · rw [hBj] at hcB
          have HBJ := Lib.hid hBj
          clear hBj hbb
          go_wp2
          go_roundg (gk - 1)
          case measure => have := HN.out; omega
          case rel =>
            have h9 := HM4.out
            rw [HTL.out] at h9
            rw [← HTT.out] at h9 ⊢
            exact ⟨B, t, h9.pop (fun _ => HBJ.out) (by have := HN.out; omega) (by have := HN.out; have := HTT.out; omega)⟩
      · rw [show decide (1 ≤ y ∧ y ≤ n ∧ (S (y - 1)).on = true) = false from decide_eq_false hal]
        have HAL := Lib.hid hal
        have HM4 := Lib.hid hM4
        have HN := Lib.hid hnum
        clear hal hM4 hb4 hnum hb hbb
        go_wp2
        go_roundg (gk - 1)
        case measure => have := HN.out; omega
        case rel =>
          have h9 := HM4.out
          rw [HTL.out] at h9
          rw [← HTT.out] at h9 ⊢
          exact ⟨B, t, h9.pop (fun h => absurd h HAL.out) (by have := HN.out; omega) (by have := HN.out; have := HTT.out; omega)⟩
end Go.Proofs.YtfihklpofmcfgaaGreat
namespace Go.Proofs.YtfihklpofmcfgaaGreat
def fdV (f : Fd) : List Value := [.int .i64 f.kind, .int .u32 (f.slot : Int), .int .i64 f.want, .int .i64 f.have_]
def fdsV (l : List Fd) : List Value := l.flatMap fdV
theorem fdsV_snoc (l : List Fd) (f : Fd) : fdsV (l ++ [f]) = fdsV l ++ fdV f := by simp [fdsV]
theorem opt_le (b : Bool) (f : Fd) : (opt b f).length ≤ 1 := by unfold opt; split <;> simp
section
variable (S : Nat → Sl) (n : Nat) (fr rs : List Nat) (R : Nat → Bool)
def kidF (i t : Nat) : List Fd := opt (!decide (Al S n (kd (S i) t)) && kd (S i) t != 0) ⟨2, i + 1, 0, ((kd (S i) t : Nat) : Int)⟩
def kidsF (i t : Nat) : List Fd := (List.range t).flatMap (kidF S n i)
/-- the findings of slot i + 1 -/
def chk1 (i : Nat) : List Fd := F1 S fr i ++ ((if (S i).on = true then kidsF S n i 2 ++ F3 S n i else []) ++ (F4 S n rs i ++ F5 S R i))
def chks (k : Nat) : List Fd := (List.range k).flatMap (chk1 S n fr rs R)
def rngF (x : Nat) : List Fd := opt (decide (x < 1) || decide (n < x)) ⟨6, x, 0, 0⟩
def rootF (x : Nat) : List Fd := opt (x != 0 && !decide (Al S n x)) ⟨7, x, 0, 0⟩
def chk : List Fd := chks S n fr rs R n ++ (fr.flatMap (rngF n) ++ rs.flatMap (rootF S n))
theorem kidsF_succ (i t : Nat) : kidsF S n i (t + 1) = kidsF S n i t ++ kidF S n i t := by simp [kidsF, List.range_succ]
theorem chks_succ (k : Nat) : chks S n fr rs R (k + 1) = chks S n fr rs R k ++ chk1 S n fr rs R k := by simp [chks, List.range_succ]
theorem chk1_le (i : Nat) : (chk1 S n fr rs R i).length ≤ 6 := by
  unfold chk1
  rw [List.length_append, List.length_append, List.length_append]
  have h1 : (F1 S fr i).length ≤ 1 := opt_le _ _
  have h2 : (F4 S n rs i).length ≤ 1 := opt_le _ _
  have h3 : (F5 S R i).length ≤ 1 := opt_le _ _
  have h4 : (if (S i).on = true then kidsF S n i 2 ++ F3 S n i else []).length ≤ 3 := by
    split
    · rw [List.length_append]
      have h5 : (F3 S n i).length ≤ 1 := opt_le _ _
      have h6 : (kidsF S n i 2).length ≤ 2 := by
        rw [kidsF_succ, kidsF_succ]
        simp only [List.length_append]
        have h7 : (kidF S n i 0).length ≤ 1 := opt_le _ _
        have h8 : (kidF S n i 1).length ≤ 1 := opt_le _ _
        have h9 : (kidsF S n i 0).length = 0 := rfl
        omega
      omega
    · simp
  omega
theorem kidsF_le (i t : Nat) : (kidsF S n i t).length ≤ t := by
  induction t with
  | zero => simp [kidsF]
  | succ t ih => rw [kidsF_succ, List.length_append]; have : (kidF S n i t).length ≤ 1 := opt_le _ _; omega
theorem mid_le (i : Nat) : (if (S i).on = true then kidsF S n i 2 ++ F3 S n i else []).length ≤ 3 := by
  split
  · rw [List.length_append]
    have h5 : (F3 S n i).length ≤ 1 := opt_le _ _
    have h6 : (kidsF S n i 2).length ≤ 2 := by
      rw [kidsF_succ, kidsF_succ]
      simp only [List.length_append]
      have h7 : (kidF S n i 0).length ≤ 1 := opt_le _ _
      have h8 : (kidF S n i 1).length ≤ 1 := opt_le _ _
      have h9 : (kidsF S n i 0).length = 0 := rfl
      omega
    omega
  · simp
theorem chks_le (k : Nat) : (chks S n fr rs R k).length ≤ 6 * k := by
  induction k with
  | zero => simp [chks]
  | succ k ih => rw [chks_succ, List.length_append]; have := chk1_le S n fr rs R k; omega
theorem flat_le {l : List Nat} {f : Nat → List Fd} (h : ∀ x, (f x).length ≤ 1) : (l.flatMap f).length ≤ l.length := by
  induction l with
  | nil => simp
  | cons a t ih => rw [List.flatMap_cons, List.length_append, List.length_cons]; have := h a; omega
theorem flat_take {l : List Nat} {f : Nat → List Fd} {k : Nat} (h : k < l.length) : (l.take (k + 1)).flatMap f = (l.take k).flatMap f ++ f (l.getD k 0) := by
  rw [List.take_succ_eq_append_getElem h, List.flatMap_append, List.getD_eq_getElem?_getD, List.getElem?_eq_getElem h]
  simp
end
def Ar.sl (A : Ar) (i : Nat) : Sl := ⟨A.σ.on (i + 1), A.cnt (i + 1), A.σ.gen (i + 1), A.nd (i + 1)⟩
theorem al_on {A : Ar} (h : A.σ.Ok) (x : Nat) : Al A.sl A.σ.cap x ↔ A.σ.on x = true := by
  unfold Al Ar.sl
  constructor
  · rintro ⟨h1, h2, h3⟩
    rwa [show x - 1 + 1 = x by omega] at h3
  · intro h1
    have h2 := h.on x h1
    exact ⟨by omega, by omega, by rwa [show x - 1 + 1 = x by omega]⟩
theorem reach_rch {A : Ar} {l : List Nat} (h : A.Inv [] (hof l)) (k : Nat) (hr : A.Reach (hof l) k) : A.σ.on k = true → Rch A.sl A.σ.cap l k := by
  induction hr with
  | root i hi =>
    intro hk
    refine .root i ?_ ((al_on h.ok i).2 hk)
    unfold hof at hi
    split at hi
    · omega
    · exact List.count_pos_iff.1 hi
  | left k hk _ ih =>
    intro hk2
    have h1 := ih hk
    have h2 := h.ok.on k hk
    have h3 : kd (A.sl (k - 1)) 0 = (A.nd k).left := by unfold kd Ar.sl; rw [if_pos rfl, show k - 1 + 1 = k by omega]
    rw [← h3]
    exact .kid k 0 h1 (by decide) ((al_on h.ok _).2 (by rw [h3]; exact hk2))
  | right k hk _ ih =>
    intro hk2
    have h1 := ih hk
    have h2 := h.ok.on k hk
    have h3 : kd (A.sl (k - 1)) 1 = (A.nd k).right := by unfold kd Ar.sl; rw [if_neg (by decide), show k - 1 + 1 = k by omega]
    rw [← h3]
    exact .kid k 1 h1 (by decide) ((al_on h.ok _).2 (by rw [h3]; exact hk2))
theorem nodup_count {l : List Nat} (h : l.Nodup) (x : Nat) : l.count x = if x ∈ l then 1 else 0 := by
  by_cases e : x ∈ l
  · rw [if_pos e, List.nodup_iff_count.1 h |> fun h2 => Nat.le_antisymm (h2 x) (List.count_pos_iff.2 e)]
  · rw [if_neg e]; exact List.count_eq_zero.2 e
theorem eg_refs (A : Ar) (x : Nat) : eg A.sl A.σ.cap x = A.refs x := by
  unfold eg Ar.refs
  rw [List.range'_eq_map_range, List.map_map]
  congr 1
  refine List.map_congr_left fun k _ => ?_
  show ph 2 (A.sl k) x = A.edge (1 + k) x
  unfold ph Ar.edge Ar.sl
  rw [Nat.add_comm 1 k]
  by_cases h : A.σ.on (k + 1) = true
  · rw [if_pos h, if_pos h]; simp [List.range_succ, kd]
  · rw [if_neg h, if_neg h]
theorem wrap_fit {n : Int} (h : -9223372036854775808 ≤ n ∧ n ≤ 9223372036854775807) : IntKind.i64.wrap n = n := by rw [IntKind.wrap_i64]; omega
theorem flat_nil {α : Type} {l : List Nat} {f : Nat → List α} (h : ∀ x ∈ l, f x = []) : l.flatMap f = [] := by
  induction l with
  | nil => rfl
  | cons a t ih => rw [List.flatMap_cons, h a (by simp), ih fun x hx => h x (by simp [hx])]; rfl
theorem chk_sound {A : Ar} {l : List Nat} (h : A.Inv [] (hof l)) (ha : A.Agg) (hl : ∀ x ∈ l, x = 0 ∨ A.σ.on x = true) {R : Nat → Bool} (hR : ∀ j, j < A.σ.cap → (R j = true ↔ Rch A.sl A.σ.cap l (j + 1))) : chk A.sl A.σ.cap A.σ.free l R = [] := by
  unfold chk
  have h1 : A.σ.free.flatMap (rngF A.σ.cap) = [] := flat_nil fun x hx => by
    have := (h.ok.free x).1 hx
    unfold rngF opt
    rw [if_neg (by simp; omega)]
  have h2 : l.flatMap (rootF A.sl A.σ.cap) = [] := flat_nil fun x hx => by
    unfold rootF opt
    rw [if_neg]
    simp
    intro hx0
    rcases hl x hx with h3 | h3
    · exact absurd h3 hx0
    · exact (al_on h.ok x).2 h3
  rw [h1, h2, List.append_nil, List.append_nil]
  unfold chks
  refine flat_nil fun i hi => ?_
  rw [List.mem_range] at hi
  have hsl : (A.sl i).on = A.σ.on (i + 1) := rfl
  have hsn : (A.sl i).nd = A.nd (i + 1) := rfl
  have hsc : (A.sl i).cnt = A.cnt (i + 1) := rfl
  have hF1 : F1 A.sl A.σ.free i = [] := by
    unfold F1 opt
    rw [if_neg]
    simp
    rw [nodup_count h.ok.nodup]
    unfold wantFree
    rw [hsl]
    have hfr := h.ok.free (i + 1)
    by_cases ho : A.σ.on (i + 1) = true
    · rw [if_pos ho, if_neg (fun e => by have := (hfr.1 e).2.2; rw [ho] at this; cases this)]; rfl
    · rw [if_neg ho, if_pos (hfr.2 ⟨by omega, by omega, by simpa using ho⟩)]; rfl
  have hkid : A.σ.on (i + 1) = true → ∀ t, t < 2 → kd (A.sl i) t = 0 ∨ Al A.sl A.σ.cap (kd (A.sl i) t) := fun ho t ht => by
    have hc := h.child (i + 1) ho
    unfold kd
    rw [hsn]
    split
    · rcases hc.1 with h3 | h3
      · exact .inl h3
      · exact .inr ((al_on h.ok _).2 h3)
    · rcases hc.2 with h3 | h3
      · exact .inl h3
      · exact .inr ((al_on h.ok _).2 h3)
  have hF2 : A.σ.on (i + 1) = true → kidsF A.sl A.σ.cap i 2 = [] := fun ho => by
    unfold kidsF
    refine flat_nil fun t ht => ?_
    rw [List.mem_range] at ht
    unfold kidF opt
    rw [if_neg]
    simp
    intro h3
    rcases hkid ho t ht with h4 | h4
    · exact h4
    · exact absurd h4 h3
  have hF3 : A.σ.on (i + 1) = true → F3 A.sl A.σ.cap i = [] := fun ho => by
    have hn := congrArg Nd.size (ha.node (i + 1) ho)
    have hn2 : (A.node (A.nd (i + 1)).key (A.nd (i + 1)).val (A.nd (i + 1)).left (A.nd (i + 1)).right).size = 1 + A.sz (A.nd (i + 1)).left + A.sz (A.nd (i + 1)).right := rfl
    rw [hn2] at hn
    have hst : ∀ t, t < 2 → ∀ s : Int, (if Al A.sl A.σ.cap (kd (A.sl i) t) then IntKind.i64.wrap (s + (A.sl (kd (A.sl i) t - 1)).nd.size) else s) = IntKind.i64.wrap (s + A.sz (kd (A.sl i) t)) ∨ A.sz (kd (A.sl i) t) = 0 ∧ (if Al A.sl A.σ.cap (kd (A.sl i) t) then IntKind.i64.wrap (s + (A.sl (kd (A.sl i) t - 1)).nd.size) else s) = s := fun t ht s => by
      by_cases hal : Al A.sl A.σ.cap (kd (A.sl i) t)
      · rw [if_pos hal]
        have h5 := hal.1
        have h6 : (A.sl (kd (A.sl i) t - 1)).nd.size = A.sz (kd (A.sl i) t) := by
          unfold Ar.sz
          rw [if_neg (by omega)]
          show (A.nd (kd (A.sl i) t - 1 + 1)).size = _
          rw [show kd (A.sl i) t - 1 + 1 = kd (A.sl i) t by omega]
        exact .inl (by rw [h6])
      · rw [if_neg hal]
        rcases hkid ho t ht with h7 | h7
        · exact .inr ⟨by rw [h7]; rfl, rfl⟩
        · exact absurd h7 hal
    have hz : ∀ y, (y = 0 ∨ A.σ.on y = true) → 0 ≤ A.sz y ∧ A.sz y ≤ 2147483647 := fun y hy => by
      unfold Ar.sz
      split
      · exact ⟨Int.le_refl 0, by decide⟩
      · rcases hy with hy | hy
        · contradiction
        · have := ha.size y hy; omega
    have hc := h.child (i + 1) ho
    have hzl := hz _ hc.1
    have hzr := hz _ hc.2
    have k0 : kd (A.sl i) 0 = (A.nd (i + 1)).left := rfl
    have k1 : kd (A.sl i) 1 = (A.nd (i + 1)).right := rfl
    have e1 : szF A.sl A.σ.cap i 1 = 1 + A.sz (A.nd (i + 1)).left := by
      show (if Al A.sl A.σ.cap (kd (A.sl i) 0) then IntKind.i64.wrap (1 + (A.sl (kd (A.sl i) 0 - 1)).nd.size) else 1) = _
      rcases hst 0 (by decide) 1 with h8 | ⟨h8, h9⟩
      · rw [h8, k0]; exact wrap_fit (by omega)
      · rw [h9]; rw [k0] at h8; omega
    have e2 : szF A.sl A.σ.cap i 2 = 1 + A.sz (A.nd (i + 1)).left + A.sz (A.nd (i + 1)).right := by
      show (if Al A.sl A.σ.cap (kd (A.sl i) 1) then IntKind.i64.wrap (szF A.sl A.σ.cap i 1 + (A.sl (kd (A.sl i) 1 - 1)).nd.size) else szF A.sl A.σ.cap i 1) = _
      rcases hst 1 (by decide) (szF A.sl A.σ.cap i 1) with h8 | ⟨h8, h9⟩
      · rw [h8, k1, e1]; exact wrap_fit (by omega)
      · rw [h9, e1]; rw [k1] at h8; omega
    unfold F3 opt
    rw [if_neg]
    simp
    rw [e2, hsn]
    exact hn.symm
  have hF4 : F4 A.sl A.σ.cap l i = [] := by
    unfold F4 opt
    rw [if_neg]
    simp
    unfold wantCount
    rw [hsl, hsc]
    by_cases ho : A.σ.on (i + 1) = true
    · rw [if_pos ho, h.cnt (i + 1) ho, eg_refs]
      have : hof l (i + 1) = l.count (i + 1) := by unfold hof; rw [if_neg (by omega)]
      rw [this]
      simp
    · rw [if_neg ho, (h.off (i + 1) (by simpa using ho)).1]
  have hF5 : F5 A.sl R i = [] := by
    unfold F5 opt
    rw [if_neg]
    simp
    intro ho
    rw [hsl] at ho
    have hre := Ar.reach_all h ha 2147483648 (i + 1) ho (by have := (ha.size (i + 1) ho).1; omega)
    exact (hR i hi).2 (reach_rch h _ hre ho)
  unfold chk1
  rw [hF1, hF4, hF5]
  by_cases ho : A.σ.on (i + 1) = true
  · rw [hsl, if_pos ho, hF2 ho, hF3 ho]; rfl
  · rw [hsl, if_neg ho]; rfl
open Go.RowKit
theorem flat_at {α : Type} {f : α → List Value} {m : Nat} (hm : ∀ x, (f x).length = m) : ∀ (l : List α) (i j : Nat) (x : α), l[i]? = some x → j < m → (l.flatMap f)[i * m + j]? = (f x)[j]?
  | [], i, j, x, h, hj => by simp at h
  | a :: t, 0, j, x, h, hj => by
    simp at h
    subst h
    rw [List.flatMap_cons, Nat.zero_mul, Nat.zero_add, List.getElem?_append_left (by rw [hm]; exact hj)]
  | a :: t, i + 1, j, x, h, hj => by
    simp at h
    rw [List.flatMap_cons, List.getElem?_append_right (by rw [hm, Nat.succ_mul]; omega), hm, show (i + 1) * m + j - m = i * m + j by rw [Nat.succ_mul]; omega]
    exact flat_at hm t i j x h hj
/-- a dump's row of slots, read -/
theorem slots_at {w : World} {B c : Nat} {a : Option Addr} {A : Ar} {st : List Nat} {held : Nat → Nat} (hI : A.Inv st held) (h : w.ownsRow B 87 11 (.slice a A.σ.cap c) A.σ.cap (slotsV A)) : SlotsAt w a A.σ.cap A.sl := by
  have hcap := hI.ok.cap2
  refine ⟨fun i hi => ?_, fun i hi => ?_⟩
  · rcases h.2 with ⟨hv, hn⟩ | ⟨g, cap, cur, hv, hB, hc, hn, hcm, hs, ht⟩
    · omega
    · simp only [Value.slice.injEq] at hv
      obtain ⟨rfl, _, _⟩ := hv
      refine ⟨g, 0, rfl, (Array.getElem?_eq_some_iff.1 hc).1, fun j v hv => ?_⟩
      have hj : j < 11 := by have := (List.getElem?_eq_some_iff.1 hv).1; simpa [slV] using this
      rw [Nat.zero_add, h.cellAt (i * 11 + j) (by omega)]
      have h1 := flat_at (f := slotV A) (m := 11) (fun x => rfl) (List.range' 1 A.σ.cap) i j (i + 1) (by rw [List.getElem?_range' hi]; simp; omega) hj
      show ((List.range' 1 A.σ.cap).flatMap (slotV A))[i * 11 + j]? = some v
      rw [h1]
      exact hv
  · show (A.nd (i + 1)).left < _ ∧ (A.nd (i + 1)).right < _
    by_cases ho : A.σ.on (i + 1) = true
    · have hc := hI.child (i + 1) ho
      have key : ∀ y, (y = 0 ∨ A.σ.on y = true) → y < 4294967296 := fun y hy => by
        rcases hy with hy | hy
        · omega
        · have := hI.ok.on y hy; omega
      exact ⟨key _ hc.1, key _ hc.2⟩
    · rw [(hI.off (i + 1) (by simpa using ho)).2]
      exact ⟨by decide, by decide⟩
theorem row_u32 {w : World} {B c : Nat} {a : Option Addr} {l : List Nat} (h : w.ownsRow B 26 1 (.slice a l.length c) l.length (u32s l)) (hl : ∀ y ∈ l, y < 4294967296) : U32At w a l := by
  refine ⟨fun j hj => ?_, hl⟩
  obtain ⟨g, rfl, hg, hc⟩ := row_cell h hj
  refine ⟨g, 0, rfl, hg, ?_⟩
  rw [Nat.zero_add, hc]
  simp [u32s, List.getD_eq_getElem?_getD, hj]
theorem fInfo : (Tryz.prog.info? 164).map (fun i => (i.zero, i.size, i.bytes)) = some (some (.agg #[.int .i64 0, .int .u32 0, .int .i64 0, .int .i64 0]), 4, 32) := by kernel_rfl
theorem i64_is' (n : Int) : IntKind.i64.wrap n = wrap64 n := by rw [IntKind.wrap_i64]; unfold wrap64; rfl
structure CSt (Z : Nat) (w2 : World) (l : List Fd) (v : Value) (wr : World) : Prop where
  val : ∃ a c, v = .slice a l.length c
  row : wr.ownsRow Z 164 4 v l.length (fdsV l)
  below : Below Z w2 wr
section
variable {Z : Nat} {w2 wr w' : World} {l : List Fd} {v v' : Value}
theorem CSt.from (h : CSt Z w2 l v wr) (hb : Below wr.heap.size wr w') (hZ : w2.heap.size = Z) : CSt Z w2 l v w' :=
  ⟨h.val, row_below h.row hb, h.below.trans (hb.mono (by have := h.below.size; omega))⟩
theorem CSt.start (w2 : World) (hZ : w2.heap.size = Z) : CSt Z w2 [] (.slice none 0 0) w2 := ⟨⟨none, 0, rfl⟩, World.ownsRow_nil _ _ _ _, Below.refl _ _⟩
theorem cell_new4 (w : World) (x y z u : Value) (t : TypeId) : ∀ j v, [x, y, z, u][j]? = some v → (w.alloc (.cells #[x, y, z, u] t)).cell? ((⟨w.heap.size, 0, none⟩ : Addr).add j) = some v := by
  intro j v hu
  match j, hu with
  | 0, hu => simp at hu; subst hu; simp [Addr.add]
  | 1, hu => simp at hu; subst hu; simp [Addr.add]
  | 2, hu => simp at hu; subst hu; simp [Addr.add]
  | 3, hu => simp at hu; subst hu; simp [Addr.add]
theorem fd_one (f : Fd) : ∀ u ∈ fdV f, u.oneCell' = true := by
  intro u hu
  simp [fdV] at hu
  rcases hu with rfl | rfl | rfl | rfl <;> rfl
/-- blocks of other types stay -/
def Others (w w' : World) : Prop := ∀ (k : Nat) (cur : Array Value) (t : TypeId), w.heap[k]? = some (.cells cur t (0, 0)) → t ≠ 164 → w'.heap[k]? = some (.cells cur t (0, 0))
theorem others_grown {n : Nat} {xs : List Value} (h : wr.ownsRow Z 164 4 v n xs) (hg : wr.grownBy w' v.ownBlock) : Others wr w' := by
  intro k cur t hk ht
  rw [hg.block k (Array.getElem?_eq_some_iff.1 hk).1 fun e => ?_]
  · exact hk
  rcases h.2 with ⟨rfl, _⟩ | ⟨g2, cap2, cur2, rfl, _, hc2, _⟩
  · simp [Value.ownBlock] at e
  · simp only [Value.ownBlock, Option.some.injEq] at e
    subst e
    rw [hk] at hc2
    simp at hc2
    exact ht hc2.2
theorem wpList_append_fd {ops : Array Oper} {rest : List Oper} {o : Oper} {a : Act} {w : World} {Q : Exit → Act → World → Prop} (hgd : o.guard = none) (s x : Operand)
    (ho : o.op = .call { callee := .builtin .append, args := #[s, x], argTypes := #[133, 133] })
    (hc : CSt Z w2 l v w) (hZ : w2.heap.size = Z) (hs : a.eval s = v) (f : Fd) (g : Nat) (hx : a.eval x = .slice (some ⟨g, 0, none⟩) 1 1)
    (hn : ∀ j u, (fdV f)[j]? = some u → w.cell? ((⟨g, 0, none⟩ : Addr).add j) = some u) (hl : l.length ≤ 100000000)
    (h : ∀ v' w', CSt Z w2 (l ++ [f]) v' w' → Others w w' → wpList Tryz.prog ops Q rest (a.put o.dst v') w') : wpList Tryz.prog ops Q (o :: rest) a w := by
  obtain ⟨i, ji, jz0, jz1, jz2⟩ := info_parts fInfo
  refine wpList_append_own _ hgd s x 133 ho Z 164 i (.agg #[.int .i64 0, .int .u32 0, .int .i64 0, .int .i64 0]) 4 32 Tryz.underlying133 ji jz0 jz1 jz2 rfl (by decide) v l.length (fdsV l) hs hc.row ⟨g, 0, none⟩ 1 1 (fdV f) hx rfl hn (fd_one f) (by unfold maxLen; omega) (by omega) (by have := hc.below.size; omega) ?_
  intro v' w' ho' hg _
  have h1 : CSt Z w2 (l ++ [f]) v' w' := by
    obtain ⟨a', c', hv⟩ := row_val ho'
    refine ⟨⟨a', c', by rw [List.length_append]; exact hv⟩, ?_, hc.below.grown hg (by have := hc.below.size; omega) (row_from hc.row)⟩
    rw [List.length_append, fdsV_snoc]
    exact ho'
  exact h v' w' h1 (others_grown hc.row hg)
/-- the cells of a block that holds a slot's description -/
theorem sl_cells {w : World} {g : Nat} {s : Sl} {t : TypeId} (h : w.heap[g]? = some (.cells (slV s).toArray t (0, 0))) :
    w.cell? ⟨g, 0, none⟩ = some (.bool s.on) ∧ w.cell? ⟨g, 1, none⟩ = some (.int .i64 s.cnt) ∧ w.cell? ⟨g, 2, none⟩ = some (.int .u32 s.gen) ∧
    w.cell? ⟨g, 3, none⟩ = some (.int .i64 s.nd.key) ∧ w.cell? ⟨g, 4, none⟩ = some (.int .i64 s.nd.val) ∧ w.cell? ⟨g, 5, none⟩ = some (.int .u32 (s.nd.left : Int)) ∧
    w.cell? ⟨g, 6, none⟩ = some (.int .u32 (s.nd.right : Int)) ∧ w.cell? ⟨g, 7, none⟩ = some (.int .i64 s.nd.size) ∧ w.cell? ⟨g, 8, none⟩ = some (.int .i64 s.nd.sum) ∧
    w.cell? ⟨g, 9, none⟩ = some (.int .i64 s.nd.mn) ∧ w.cell? ⟨g, 10, none⟩ = some (.int .i64 s.nd.mx) := by
  refine ⟨?_, ?_, ?_, ?_, ?_, ?_, ?_, ?_, ?_, ?_, ?_⟩ <;> (rw [cell_of_row _ _ _ _ _ _ h]; rfl)
/-- the row of findings beside the description of the slot at hand -/
structure RSt (Z : Nat) (w2 : World) (l : List Fd) (v : Value) (sb : Nat) (s : Sl) (wr : World) : Prop where
  st : CSt Z w2 l v wr
  box : wr.heap[sb]? = some (.cells (slV s).toArray 87 (0, 0))
variable {sb : Nat} {s : Sl}
theorem RSt.from (h : RSt Z w2 l v sb s wr) (hb : Below wr.heap.size wr w') (hZ : w2.heap.size = Z) : RSt Z w2 l v sb s w' :=
  ⟨h.st.from hb hZ, (hb.block _ (Array.getElem?_eq_some_iff.1 h.box).1).trans h.box⟩
theorem RSt.push {w3 : World} {l' : List Fd} (h : RSt Z w2 l v sb s wr) (hb : Below wr.heap.size wr w') (hc : CSt Z w2 l' v' w3) (ho : Others w' w3) : RSt Z w2 l' v' sb s w3 :=
  ⟨hc, ho _ _ _ ((hb.block _ (Array.getElem?_eq_some_iff.1 h.box).1).trans h.box) (by decide)⟩
theorem below_new (w : World) (o : Obj) : Below w.heap.size w (w.alloc o) := (Below.refl _ _).alloc (Nat.le_refl _) _
theorem below_chain {a b c : World} (h : Below a.heap.size a b) (h' : Below b.heap.size b c) : Below a.heap.size a c := h.trans (h'.mono h.size)
theorem opt_yes {b : Bool} {f : Fd} (h : b = true) : opt b f = [f] := by unfold opt; rw [if_pos h]
theorem opt_no {b : Bool} {f : Fd} (h : b = false) : opt b f = [] := by unfold opt; rw [h]; rfl
end
def FdsRes (w : World) (l : List Fd) (e : Ending) (w' : World) : Prop :=
  ∃ a c, e = .returned (.slice a l.length c) ∧ w'.ownsRow w.heap.size 164 4 (.slice a l.length c) l.length (fdsV l) ∧ Below w.heap.size w w'
/-- what is asked of the reference's Check -/
def CheckSpec : Prop := ∀ (w : World) (a b ra : Option Addr) (n c d rc : Nat) (S : Nat → Sl) (fr rs : List Nat), SlotsAt w a n S → U32At w b fr → U32At w ra rs → n ≤ 65536 → fr.length ≤ 1000000 → rs.length ≤ 1000000 → ∀ R : Nat → Bool, (∀ j, j < n → (R j = true ↔ Rch S n rs (j + 1))) →
    Calls Tryz.prog 89 #[.agg #[.slice a n c, .slice b fr.length d], .slice ra rs.length rc] w (FdsRes w (chk S n fr rs R))
set_option maxHeartbeats 1000000 in
set_option maxRecDepth 100000 in
theorem clean_any (hchk : CheckSpec) {w : World} {a b ra : Option Addr} {n c d rc : Nat} {S : Nat → Sl} (fr rs : List Nat) (h : SlotsAt w a n S) (hf : U32At w b fr) (hr : U32At w ra rs) (hn : n ≤ 65536) (hfl : fr.length ≤ 1000000) (hl : rs.length ≤ 1000000) (R : Nat → Bool) (hR : ∀ j, j < n → (R j = true ↔ Rch S n rs (j + 1))) (h0 : chk S n fr rs R = []) :
    Calls Tryz.prog 63 #[.agg #[.slice a n c, .slice b fr.length d], .slice ra rs.length rc] w (Calm w (.bool true)) := by
  have hb := below_new w (Obj.cells #[Value.slice a n c, Value.slice b fr.length d] 33)
  have hh := h.below hb
  have hff := hf.below hb
  have hrr := hr.below hb
  obtain ⟨hc0, hc1⟩ := (DBox.new w a b n c fr.length d).cells
  obtain ⟨M, hM⟩ : ∃ M, fr.length = M := ⟨_, rfl⟩
  obtain ⟨L, hL⟩ : ∃ L, rs.length = L := ⟨_, rfl⟩
  have hcall := hchk _ a b ra n c d rc S fr rs hh hff hrr hn hfl hl R hR
  rw [h0] at hcall
  rw [hM, hL] at hcall
  rw [hM] at hc0 hc1 hb ⊢
  rw [hL]
  have HC := Lib.hid hcall
  have HB := Lib.hid hb
  clear h hf hr hh hff hrr hR h0 hcall hM hL hb hfl hl
  go_enter Tryz.func63, Tryz.ntmps63
  go_wp2_with fail
  refine HC.out.mono ?_
  rintro e w2 ⟨ra', rc', rfl, _, hb2⟩
  have hbb := HB.out.trans (hb2.mono HB.out.size)
  have HBB := Lib.hid hbb
  clear hb2 hbb hc0 hc1
  rw [show ([] : List Fd).length = 0 from rfl]
  go_wp2
  go_ret
  exact ⟨rfl, HBB.out⟩
set_option maxHeartbeats 1000000 in
set_option maxRecDepth 100000 in
theorem sound_any (hchk : CheckSpec) (I : AImpl) {w : World} {p : Value} {A : Ar} {rd : Int} {F : Nat → Prop} {l : List Nat} {ra : Option Addr} {rc : Nat} (h : I.Is w p A rd F) (hI : A.Inv [] (hof l)) (hA : A.Agg) (hr : U32At w ra l) (hl : l.length ≤ 1000000) (hi : ∀ x ∈ l, x = 0 ∨ A.σ.on x = true) :
    Calls Tryz.prog 33 #[p, .slice ra l.length rc] w (Calm w (.bool true)) := by
  obtain ⟨L, hL⟩ : ∃ L, l.length = L := ⟨_, rfl⟩
  have HL := Lib.hid hL
  rw [hL]
  have HR := Lib.hid hr
  have HI := Lib.hid hI
  have HCK : Hid (∀ R : Nat → Bool, (∀ j, j < A.σ.cap → (R j = true ↔ Rch A.sl A.σ.cap l (j + 1))) → chk A.sl A.σ.cap A.σ.free l R = []) := fun R hR => chk_sound hI hA hi hR
  have HX := Lib.hid h
  clear hL hr hI hA hi h
  go_enter Tryz.func33, Tryz.ntmps33
  go_wp2_with fail
  refine (I.dump p A rd F w HX.out).mono ?_
  rintro e w2 ⟨a, c, b, d, rfl, hs, hf, hb⟩
  have hlen := HI.out.ok.len
  have hcap := HI.out.ok.cap2
  have hsl := slots_at HI.out hs
  have hfr := row_u32 hf fun y hy => by have := (HI.out.ok.free y).1 hy; omega
  have hrr := HR.out.below hb
  have hcl := clean_any hchk (b := b) (c := c) (d := d) (rc := rc) A.σ.free l hsl hfr hrr hcap (by omega) hl (fun j => @decide (Rch A.sl A.σ.cap l (j + 1)) (Classical.propDecidable _)) (fun j hj => by simp) (HCK.out _ (fun j hj => by simp))
  rw [HL.out] at hcl
  have HCL := Lib.hid hcl
  have HB := Lib.hid hb
  clear hs hf hb hlen hcap hsl hfr hrr hcl hl
  go_wp2_with fail
  refine HCL.out.mono ?_
  rintro e w3 ⟨rfl, hb3⟩
  have hbb := HB.out.trans (hb3.mono HB.out.size)
  have HBB := Lib.hid hbb
  clear hb3 hbb
  go_wp2
  go_ret
  exact ⟨rfl, HBB.out⟩
end Go.Proofs.YtfihklpofmcfgaaGreat
set_option linter.unusedSimpArgs false
namespace Go.Proofs.YtfihklpofmcfgaaGreat
open Go.RowKit
section
variable {I : AImpl} {B : Nat} {w0 w w' : World} {p : Value} {A : Ar} {rd rd' : Int} {rs : List Row} {bs : List (Nat × Obj)}
theorem Scn.sound (hchk : CheckSpec) (h : Scn I B w0 w p A rd rs bs) {l : List Nat} {ra : Option Addr} {L rc : Nat} (hv : A.Inv [] (hof l)) (hA : A.Agg) (hr : U32At w ra l) (hL : l.length = L) (hl : L ≤ 1000000) (hi : ∀ x ∈ l, x = 0 ∨ A.σ.on x = true) :
    Calls Tryz.prog 33 #[p, .slice ra L rc] w (Calm w (.bool true)) := by
  subst hL
  obtain ⟨F, f1, _⟩ := h.mr.has
  exact sound_any hchk I f1 hv hA hr hl hi
end
end Go.Proofs.YtfihklpofmcfgaaGreat
namespace Go.Proofs.YtfihklpofmcfgaaGreat
theorem sub_union {l m n : List En} (p : Int) (hl : Up l) (hm : Up m) (hn : Up n) : subE l (unionE m n p) = subE (subE l m) n := by
  refine up_get_ext (subE_up hl _) (subE_up (subE_up hl _) _) fun k => ?_
  rw [get_sub hl, get_sub (subE_up hl _), get_sub hl, get_union hm hn]
  cases getE n k <;> cases getE m k <;> rfl
theorem int_union {l m n : List En} (hl : Up l) (hm : Up m) (hn : Up n) : intE l (unionE m n 1) 1 = unionE (intE l m 1) (intE l n 1) 1 := by
  refine up_get_ext (intE_up hl _ _) (unionE_up (intE_up hl _ _) _ _ _ (intE_up hl _ _)) fun k => ?_
  rw [get_union (intE_up hl _ _) (intE_up hl _ _), get_int hl, get_int hl, get_int hl]
  cases h1 : getE l k with
  | none => rfl
  | some x =>
    have k1 := getE_key h1
    simp only [Option.bind_some, bothE, k1, get_union hm hn]
    cases h2 : getE n k with
    | none => cases h3 : getE m k <;> rfl
    | some z => cases h3 : getE m k <;> simp [mixE, chooseV, get_int hl, h1, bothE, k1, h3]
open Go.RowKit
theorem Hld.on {A : Ar} {R : List Nat} {T : List Tr} {N : Nat} (h : Hld A R T N) : ∀ z ∈ R, z = 0 ∨ A.σ.on z = true := fun z hz => by
  obtain ⟨t, _, hs⟩ := h.roots z hz
  exact hs.idx
end Go.Proofs.YtfihklpofmcfgaaGreat
