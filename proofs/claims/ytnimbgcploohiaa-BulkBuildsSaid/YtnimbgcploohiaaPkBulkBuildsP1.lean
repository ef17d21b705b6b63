/- Of the proof of PkBulkBuildsP: Bytes, Trees, PlayPure, DumpB, DumpR, DumpE, SoundP, SlotsAt, RefNode, Ens, RefSub, Wf, RefTree, ChkS. -/
import Derived.Test.YtnimbgcploohiaaPk1
import Derived.Test.YtnimbgcploohiaaPk2
import Derived.Test.YtnimbgcploohiaaPk3
import Derived.Test.YtnimbgcploohiaaPk4
import Derived.Lib.Zigzag
import Derived.Laws.BitsAllLaws
import Derived.Laws.Bits128
import Derived.RowKit
import Derived.Below
import Derived.Laws.OwnMore
import Derived.OwnWalk
import Derived.Deep.Draws
import Derived.Laws.BitsLemmas
import Derived.Deep.QuietTactic
import Derived.BigQuiet
import Derived.BigGuardPart
import Derived.Deep.CutRange
import Derived.Deep.LoopGhost
import Derived.Laws.NewBlocks
import Derived.Deep.DeepCutAuto
import Derived.Laws.AppendOwnNone
import Derived.Deep.RegionHeldLaw
import Derived.Deep.RegionHeld3
set_option linter.unusedVariables false
namespace Go.Proofs.Ytnimbgcploohiaa
open Go
end Go.Proofs.Ytnimbgcploohiaa
set_option linter.unusedVariables false
namespace Go.Proofs.Ytnimbgcploohiaa
open Go Go.RowKit
theorem add_at (b off j : Nat) : (⟨b, off, none⟩ : Addr).add j = ⟨b, off + j, none⟩ := by
  unfold Addr.add; split <;> simp_all
end Go.Proofs.Ytnimbgcploohiaa
set_option linter.unusedVariables false
namespace Go.Proofs.Ytnimbgcploohiaa
end Go.Proofs.Ytnimbgcploohiaa
set_option linter.unusedVariables false
namespace Go.Proofs.Ytnimbgcploohiaa
/-- reached from a slot that is held -/
inductive Ar.Reach (A : Ar) (held : Nat → Nat) : Nat → Prop where
  | root (i : Nat) : 0 < held i → Ar.Reach A held i
  | left (k : Nat) : A.σ.on k = true → Ar.Reach A held k → Ar.Reach A held (A.nd k).left
  | right (k : Nat) : A.σ.on k = true → Ar.Reach A held k → Ar.Reach A held (A.nd k).right
theorem sum_pos {l : List Nat} {f : Nat → Nat} (h : 0 < (l.map f).sum) : ∃ k ∈ l, 0 < f k := by
  induction l with
  | nil => simp at h
  | cons a t ih =>
    simp only [List.map_cons, List.sum_cons] at h
    rcases Nat.eq_zero_or_pos (f a) with h1 | h1
    · obtain ⟨k, hk, h2⟩ := ih (by omega)
      exact ⟨k, by simp [hk], h2⟩
    · exact ⟨a, by simp, h1⟩
theorem Ar.reach_all {A : Ar} {held : Nat → Nat} (h : A.Inv [] held) (ha : A.Agg) : ∀ (n : Nat) (k : Nat), A.σ.on k = true → 2147483647 - (A.nd k).size < (n : Int) → A.Reach held k
  | 0, k, hk, hn => by have := (ha.size k hk).2; omega
  | n + 1, k, hk, hn => by
    have hc := h.cnt k hk
    have hp := h.pos k hk
    simp at hc
    rcases Nat.eq_zero_or_pos (held k) with h0 | h0
    · have hr : 0 < A.refs k := by omega
      obtain ⟨m, hm, he⟩ := sum_pos hr
      unfold Ar.edge at he
      split at he
      · rename_i hon
        have hz : ∀ y, (y = 0 ∨ A.σ.on y = true) → 0 ≤ A.sz y := fun y hy => by
          unfold Ar.sz
          split
          · exact Int.le_refl 0
          · rcases hy with hy | hy
            · contradiction
            · have := (ha.size y hy).1; omega
        have hch := h.child m hon
        have h1 := congrArg Nd.size (ha.node m hon)
        have h2 : (A.node (A.nd m).key (A.nd m).val (A.nd m).left (A.nd m).right).size = 1 + A.sz (A.nd m).left + A.sz (A.nd m).right := rfl
        rw [h2] at h1
        have h3 := hz _ hch.1
        have h4 := hz _ hch.2
        have hk1 := h.ok.on k hk
        have hks : A.sz k = (A.nd k).size := by unfold Ar.sz; rw [if_neg (by omega)]
        unfold hit at he
        by_cases hl : (A.nd m).left = k
        · rw [hl] at h1 h3
          have := Ar.reach_all h ha n m hon (by omega)
          rw [← hl]
          exact .left m hon this
        · rw [if_neg hl] at he
          by_cases hr2 : (A.nd m).right = k
          · rw [hr2] at h1 h4
            have := Ar.reach_all h ha n m hon (by omega)
            rw [← hr2]
            exact .right m hon this
          · rw [if_neg hr2] at he; omega
      · omega
    · exact .root k h0
end Go.Proofs.Ytnimbgcploohiaa
set_option linter.unusedVariables false
namespace Go.Proofs.Ytnimbgcploohiaa
theorem Ar.above_le (A : Ar) (s : Option Int) : A.above s ≤ A.σ.cap := by
  unfold Ar.above
  exact Nat.le_trans (List.length_filter_le _ _) (by simp)
end Go.Proofs.Ytnimbgcploohiaa
set_option linter.unusedVariables false
namespace Go.Proofs.Ytnimbgcploohiaa
/-- how often each slot is held -/
def hof (l : List Nat) (i : Nat) : Nat := if i = 0 then 0 else l.count i
theorem hof_zero (l : List Nat) : hof (l ++ [0]) = hof l := by
  funext i
  unfold hof
  split
  · rfl
  · rename_i h
    rw [List.count_append]
    have : List.count i [0] = 0 := by rw [List.count_eq_zero]; simp; exact h
    omega
theorem hof_more (l : List Nat) {i : Nat} (hi : i ≠ 0) : hof (l ++ [i]) = more (hof l) i := by
  funext j
  show (if j = 0 then 0 else (l ++ [i]).count j) = (if j = i then (if i = 0 then 0 else l.count i) + 1 else (if j = 0 then 0 else l.count j))
  by_cases h : j = 0
  · subst h; rw [if_pos rfl, if_neg (fun e => hi e.symm), if_pos rfl]
  · rw [if_neg h, List.count_append]
    by_cases e : j = i
    · subst e; rw [if_pos rfl, if_neg h]; simp
    · rw [if_neg e, if_neg h]
      have : List.count j [i] = 0 := by rw [List.count_eq_zero]; simp; exact e
      omega
end Go.Proofs.Ytnimbgcploohiaa
set_option linter.unusedVariables false
namespace Go.Proofs.Ytnimbgcploohiaa
open Go.RowKit
theorem kids_any (o : Bool) (c g k v s u x y : Int) (l r : Int) (w : World) :
    Calls Try.prog 74 #[.agg #[.bool o, .int .i64 c, .int .u32 g, .int .i64 k, .int .i64 v, .int .u32 l, .int .u32 r, .int .i64 s, .int .i64 u, .int .i64 x, .int .i64 y]] w
      (Calm w (.agg #[.int .u32 l, .int .u32 r])) := by
  have HU : Hid _ := Lib.hid Try.underlying129
  have hin : (Try.prog.info? 129).map (·.size) = some 2 := by kernel_rfl
  have HI := Lib.hid hin
  clear hin
  go_enter Try.func74, Try.ntmps74
  go_wp2
  exact bodyPost_ret (v := .agg #[.int .u32 l, .int .u32 r]) (results_cell_row rfl _ _ (w.heap.size + 1) 129 _ (0, 0) _ rfl (heap_alloc2_new w _ _) HU.out rfl HI.out) rfl ⟨rfl, ((Below.refl _ _).alloc (Nat.le_refl _) _).alloc (by simp) _⟩
set_option maxHeartbeats 1000000 in
set_option maxRecDepth 100000 in
theorem dallocated_any {w : World} {a b : Option Addr} {n c m d i : Nat} {S : Nat → Sl} (h : SlotsAt w a n S) (hn : n ≤ 65536) (hi : i < 4294967296) :
    Calls Try.prog 41 #[.agg #[.slice a n c, .slice b m d], .int .u32 (i : Int)] w (Calm w (.bool (decide (1 ≤ i ∧ i ≤ n ∧ (S (i - 1)).on = true)))) := by
  have hb1 : Below w.heap.size w (w.alloc (Obj.cells #[Value.slice a n c, Value.slice b m d] 33)) := (Below.refl _ _).alloc (Nat.le_refl _) _
  have HB := Lib.hid hb1
  clear hb1
  have hni : (n : Int) ≤ 65536 := by omega
  by_cases h0 : 1 ≤ i ∧ i ≤ n
  · obtain ⟨j, rfl⟩ : ∃ j, i = j + 1 := ⟨i - 1, by omega⟩
    obtain ⟨b', off, rfl, hlt, hc⟩ := h.cell j (by omega)
    have hc0 : w.cell? ⟨b', off + j * 11, none⟩ = _ := hc 0 _ rfl
    have hjn : (j : Int) < (n : Int) := by omega
    have hjn2 : (j : Int) + 1 ≤ (n : Int) := by omega
    have hj1 : (1 : Int) ≤ (j : Int) + 1 := by omega
    rw [show decide (1 ≤ j + 1 ∧ j + 1 ≤ n ∧ (S (j + 1 - 1)).on = true) = (S j).on by
      have : 1 ≤ j + 1 ∧ j + 1 ≤ n := h0
      simp [this]]
    generalize (S j).on = o at *
    clear h hc h0 hi
    go_enter Try.func41, Try.ntmps41
    go_wp2
    go_ret
    exact ⟨rfl, HB.out⟩
  · rw [show decide (1 ≤ i ∧ i ≤ n ∧ (S (i - 1)).on = true) = false by simp; omega]
    by_cases h1 : i = 0
    · subst h1
      clear h h0
      go_enter Try.func41, Try.ntmps41
      go_wp2
      go_ret
      exact ⟨rfl, HB.out⟩
    · have hin : ¬ (i : Int) ≤ (n : Int) := by omega
      have hi1 : (1 : Int) ≤ (i : Int) := by omega
      clear h h0
      go_enter Try.func41, Try.ntmps41
      go_wp2
      go_ret
      exact ⟨rfl, HB.out⟩
end Go.Proofs.Ytnimbgcploohiaa
set_option linter.unusedVariables false
namespace Go.Proofs.Ytnimbgcploohiaa
open Go.RowKit
theorem i64sInfo : (Try.prog.info? 3).map (fun i => (i.zero, i.size, i.bytes)) = some (some (.int .i64 0), 1, 8) := by kernel_rfl
/-- a row of numbers -/
def natR (n : Nat) (f : Nat → Nat) : List Value := (List.range n).map fun i => .int .i64 ((f i : Nat) : Int)
theorem natR_at {n i : Nat} (f : Nat → Nat) (h : i < n) : (natR n f)[i]? = some (.int .i64 ((f i : Nat) : Int)) := by simp [natR, h]
theorem natR_zero (n : Nat) : (madeCells (Value.int .i64 0).cells (n * 1)).toList = natR n fun _ => 0 := by
  rw [Nat.mul_one]
  refine (toList_madeCells_one (.int .i64 0) n).trans ?_
  unfold natR
  simp [List.map_const']
theorem natR_set {n i : Nat} (f : Nat → Nat) (x : Int) (v : Nat) (hx : x = (v : Int)) : (natR n f).set i (.int .i64 x) = natR n fun j => if j = i then v else f j := by
  subst hx
  apply List.ext_getElem?
  intro j
  unfold natR
  rw [List.getElem?_set]
  by_cases hj : j < n
  · by_cases e : i = j
    · subst e; simp [hj]
    · have e2 : ¬ j = i := fun h => e h.symm
      simp [hj, e, e2]
  · by_cases e : i = j
    · subst e; simp [hj]
    · simp [hj, e]
/-- a slice of slot numbers reads as l -/
structure U32At (w : World) (a : Option Addr) (l : List Nat) : Prop where
  cell : ∀ j, j < l.length → ∃ b off, a = some ⟨b, off, none⟩ ∧ b < w.heap.size ∧ w.cell? ⟨b, off + j, none⟩ = some (.int .u32 ((l.getD j 0 : Nat) : Int))
  lt : ∀ x ∈ l, x < 4294967296
theorem U32At.below {w w' : World} {a : Option Addr} {l : List Nat} (h : U32At w a l) (hb : Below w.heap.size w w') : U32At w' a l := by
  refine ⟨fun j hj => ?_, h.lt⟩
  obtain ⟨b, off, ha, hlt, hc⟩ := h.cell j hj
  exact ⟨b, off, ha, Nat.lt_of_lt_of_le hlt hb.size, by rw [← hc]; exact hb.cell (p := ⟨b, off + j, none⟩) hlt⟩
theorem getD_mem {l : List Nat} {k : Nat} (h : k < l.length) : l.getD k 0 ∈ l := by
  rw [List.getD_eq_getElem?_getD, List.getElem?_eq_getElem h]; exact List.getElem_mem _
theorem count_step {l : List Nat} {k : Nat} (h : k < l.length) (x : Nat) : (l.take (k + 1)).count x = (l.take k).count x + if l.getD k 0 = x then 1 else 0 := by
  rw [List.take_succ_eq_append_getElem h, List.count_append, List.getD_eq_getElem?_getD, List.getElem?_eq_getElem h]
  by_cases e : l[k] = x
  · simp [e]
  · simp [e]
def MadeRow (w : World) (n : Nat) (f : Nat → Nat) (e : Ending) (w' : World) : Prop :=
  ∃ g, e = .returned (.slice (some ⟨g, 0, none⟩) n n) ∧ w'.ownsRow w.heap.size 3 1 (.slice (some ⟨g, 0, none⟩) n n) n (natR n f) ∧ Below w.heap.size w w'
set_option maxHeartbeats 1000000 in
set_option maxRecDepth 100000 in
theorem counts_any {w : World} {a : Option Addr} {c n : Nat} (l : List Nat) (h : U32At w a l) (hn : n ≤ 65536) (hl : l.length ≤ 1000000) :
    Calls Try.prog 73 #[.slice a l.length c, .int .i64 (n : Int)] w (MadeRow w n fun i => l.count (i + 1)) := by
  obtain ⟨i0, hi, hz0, hz1, hz2⟩ := info_parts i64sInfo
  have hni : (n : Int) ≤ 65536 := by omega
  have hni0 : (0 : Int) ≤ (n : Int) := by omega
  have HH := Lib.hid h
  obtain ⟨L, hL⟩ : ∃ L, l.length = L := ⟨_, rfl⟩
  have HL := Lib.hid hL
  rw [hL] at hl ⊢
  have hLi : (L : Int) ≤ 1000000 := by omega
  clear h hL
  go_enter Try.func73, Try.ntmps73
  go_wp2_with (refine wpList_make_full _ rfl (.tmp 7) (.tmp 7) 122 rfl w.heap.size 3 i0 (.int .i64 0) 1 Try.underlying122 hi hz0 hz1 .i64 .i64 (n : Int) (n : Int) n rfl rfl rfl rfl (by rw [hz2]; omega) (by unfold maxLen; omega) (Nat.le_refl _) ?_; intro w2 ho2 hg2)
  have hb2 : Below w.heap.size w w2 := (Below.refl _ _).grown hg2 (Nat.le_refl _) (fun k hk => by cases hk)
  rw [natR_zero] at ho2
  clear hg2
  go_loopw [6] (fun i wr => ∃ k : Nat, k ≤ L ∧ i = .int .i64 (k : Int) ∧ wr.ownsRow w.heap.size 3 1 (.slice (some ⟨w.heap.size, 0, none⟩) n n) n (natR n fun i => (l.take k).count (i + 1)) ∧ Below w.heap.size w wr) (fun i _ => L - (intOf i).toNat)
  case atStart => exact ⟨0, Nat.zero_le _, rfl, by simpa using ho2, hb2⟩
  case round =>
    clear ho2 hb2
    obtain ⟨k, hk, rfl, ho, hb⟩ := hrel
    have hs := hb.size
    by_cases hlt : k < L
    · have hkl : k < l.length := by rw [HL.out]; exact hlt
      have hki : (k : Int) < (L : Int) := by omega
      obtain ⟨b, off, rfl, hbl, hcell⟩ := (HH.out.below hb).cell k hkl
      have hx2 : l.getD k 0 < 4294967296 := HH.out.lt _ (getD_mem hkl)
      have hcs := fun x => count_step hkl x
      have HC := Lib.hid hcs
      clear hcs hkl
      generalize hX : l.getD k 0 = X at hcell hx2
      have HX := Lib.hid hX
      clear hX
      have hX4 : (X : Int) < 4294967296 := by omega
      have hkn : (0 : Int) ≤ (k : Int) := by omega
      by_cases hr : 1 ≤ X ∧ X ≤ n
      · obtain ⟨j, rfl⟩ : ∃ j, X = j + 1 := ⟨X - 1, by omega⟩
        have hjn : j < n := by omega
        have hji : (j : Int) < (n : Int) := by omega
        have hj1 : (1 : Int) ≤ (j : Int) + 1 := by omega
        have hjn2 : (j : Int) + 1 ≤ (n : Int) := by omega
        have hxw : ((j + 1 : Nat) : Int) = (j : Int) + 1 := by omega
        have hcj := (ho.cellAt j (by omega)).trans (natR_at _ hjn)
        have hfj := ho.frozenAt j
        have hct : (l.take k).count (j + 1) ≤ k := Nat.le_trans List.count_le_length (by simp; omega)
        have hst := (ho.stored j (.int .i64 (((l.take k).count (j + 1) : Nat) + 1 : Int))).1
        have hbs : Below w.heap.size w (wr.setCell ⟨w.heap.size, j, none⟩ (.int .i64 (((l.take k).count (j + 1) : Nat) + 1 : Int))) := hb.setCell (Nat.le_refl _) _
        have HS := Lib.hid hst
        have HB := Lib.hid hbs
        generalize hT : (l.take k).count (j + 1) = T at hcj hct HS HB
        have HT := Lib.hid hT
        have hTi : (T : Int) ≤ 1000000 := by omega
        have hTi0 : (0 : Int) ≤ (T : Int) := by omega
        clear hst hbs hb hT hr hct ho
        go_wp2
        refine ⟨⟨k + 1, by omega, by go_num, ?_, HB.out⟩, by simp [intOf]; omega⟩
        have h9 := HS.out
        rw [natR_set (i := j) _ _ (T + 1) (by omega)] at h9
        refine (congrArg (fun xs => World.ownsRow _ _ _ _ _ _ xs) (congrArg (natR n) (funext fun i => ?_))).mp h9
        rw [HC.out, HX.out]
        by_cases e : i = j
        · subst e; rw [if_pos rfl, if_pos rfl, HT.out]
        · rw [if_neg e, if_neg (by omega)]; rfl
      · have hsame : (natR n fun i => (l.take k).count (i + 1)) = natR n fun i => (l.take (k + 1)).count (i + 1) := by
          unfold natR
          refine List.map_congr_left fun i hi => ?_
          rw [List.mem_range] at hi
          show Value.int .i64 (((l.take k).count (i + 1) : Nat) : Int) = Value.int .i64 (((l.take (k + 1)).count (i + 1) : Nat) : Int)
          rw [HC.out, HX.out, if_neg (by omega)]
          rfl
        have HSM := Lib.hid hsame
        have HO := Lib.hid ho
        clear ho hsame
        by_cases h0 : X = 0
        · subst h0
          clear hr
          go_wp2
          exact ⟨⟨k + 1, by omega, by go_num, by rw [← HSM.out]; exact HO.out, hb⟩, by simp [intOf]; omega⟩
        · have h1 : (1 : Int) ≤ (X : Int) := by omega
          have h2 : ¬ (X : Int) ≤ (n : Int) := by omega
          clear hr h0
          go_wp2
          exact ⟨⟨k + 1, by omega, by go_num, by rw [← HSM.out]; exact HO.out, hb⟩, by simp [intOf]; omega⟩
    · obtain rfl : k = L := by omega
      rw [List.take_of_length_le (by rw [HL.out]; exact Nat.le_refl _)] at ho
      go_wp2
      go_ret
      exact ⟨_, rfl, ho, hb⟩
end Go.Proofs.Ytnimbgcploohiaa
set_option linter.unusedVariables false
namespace Go.Proofs.Ytnimbgcploohiaa
open Go.RowKit
theorem ph_succ (t : Nat) (s : Sl) (x : Nat) : ph (t + 1) s x = ph t s x + if s.on = true ∧ kd s t = x then 1 else 0 := by
  unfold ph
  by_cases h : s.on = true
  · rw [if_pos h, if_pos h, List.range_succ, List.map_append, List.sum_append]
    simp [hit, h]
  · rw [if_neg h, if_neg h, if_neg (fun e => h e.1)]
theorem ph_zero (s : Sl) (x : Nat) : ph 0 s x = 0 := by unfold ph; simp
theorem ph_le (t : Nat) (s : Sl) (x : Nat) : ph t s x ≤ t := by
  induction t with
  | zero => rw [ph_zero]; exact Nat.le_refl _
  | succ t ih => rw [ph_succ]; split <;> omega
theorem eg_succ (S : Nat → Sl) (k x : Nat) : eg S (k + 1) x = eg S k x + ph 2 (S k) x := by
  unfold eg
  rw [List.range_succ, List.map_append, List.sum_append]
  simp
theorem eg_le (S : Nat → Sl) (k x : Nat) : eg S k x ≤ 2 * k := by
  induction k with
  | zero => unfold eg; simp
  | succ k ih => rw [eg_succ]; have := ph_le 2 (S k) x; omega
/-- the box of a dump -/
structure DBox (w : World) (q : Nat) (a b : Option Addr) (n c m d : Nat) : Prop where
  box : w.heap[q]? = some (.cells #[.slice a n c, .slice b m d] 33 (0, 0))
theorem DBox.new (w : World) (a b : Option Addr) (n c m d : Nat) : DBox (w.alloc (Obj.cells #[.slice a n c, .slice b m d] 33)) w.heap.size a b n c m d := ⟨heap_alloc_new w _⟩
section
variable {w w' : World} {q : Nat} {a b : Option Addr} {n c m d : Nat}
theorem DBox.below {B : Nat} (h : DBox w q a b n c m d) (hb : Below B w w') (hq : q < B) : DBox w' q a b n c m d := ⟨(hb.block q hq).trans h.box⟩
theorem DBox.cells (h : DBox w q a b n c m d) : w.cell? ⟨q, 0, none⟩ = some (.slice a n c) ∧ w.cell? ⟨q, 1, none⟩ = some (.slice b m d) := by
  refine ⟨?_, ?_⟩ <;> (rw [cell_of_row _ _ _ _ _ _ h.box]; rfl)
end
def EdgeRel (S : Nat → Sl) (n q : Nat) (w1 : World) (f : Nat → Nat) (wr : World) : Prop :=
  wr.ownsRow (q + 1) 3 1 (.slice (some ⟨q + 1, 0, none⟩) n n) n (natR n f) ∧ Below (q + 1) w1 wr
theorem EdgeRel.store {S : Nat → Sl} {n q : Nat} {w1 wr : World} {f g : Nat → Nat} (h : EdgeRel S n q w1 f wr) (j : Nat) (x : Int) (hx : x = ((g j : Nat) : Int)) (hs : q + 1 ≤ w1.heap.size) (hg : ∀ i, i < n → i ≠ j → g i = f i) :
    EdgeRel S n q w1 g (wr.setCell ⟨q + 1, j, none⟩ (.int .i64 x)) := by
  refine ⟨?_, h.2.setCell (Nat.le_refl _) _⟩
  have h1 := (h.1.stored j (.int .i64 x)).1
  rw [natR_set f x (g j) hx] at h1
  have e : natR n (fun i => if i = j then g j else f i) = natR n g := by
    unfold natR
    refine List.map_congr_left fun i hi => ?_
    rw [List.mem_range] at hi
    show Value.int .i64 (((if i = j then g j else f i : Nat)) : Int) = Value.int .i64 ((g i : Nat) : Int)
    by_cases e : i = j
    · rw [if_pos e, e]
    · rw [if_neg e, hg i hi e]
  rw [e] at h1
  exact h1
theorem EdgeRel.below {S : Nat → Sl} {n q : Nat} {w1 wr w' : World} {f : Nat → Nat} (h : EdgeRel S n q w1 f wr) (hb : Below wr.heap.size wr w') (hs : q + 1 ≤ w1.heap.size) : EdgeRel S n q w1 f w' :=
  ⟨row_below h.1 hb, h.2.trans (hb.mono (Nat.le_trans hs h.2.size))⟩
theorem kid_at {w : World} {kb t : Nat} {s : Sl} (h : w.heap[kb]? = some (.cells #[.int .u32 (s.nd.left : Int), .int .u32 (s.nd.right : Int)] 129 (0, 0))) (ht : t < 2) : w.cell? ⟨kb, t, none⟩ = some (.int .u32 ((kd s t : Nat) : Int)) := by
  obtain ⟨h0, h1⟩ := two_cells h
  rcases (show t = 0 ∨ t = 1 by omega) with rfl | rfl
  · exact h0
  · exact h1
theorem EdgeRel.same {S : Nat → Sl} {n q : Nat} {w1 wr : World} {f g : Nat → Nat} (h : EdgeRel S n q w1 f wr) (hg : ∀ i, i < n → g i = f i) : EdgeRel S n q w1 g wr := by
  refine ⟨?_, h.2⟩
  have e : natR n g = natR n f := by
    unfold natR
    refine List.map_congr_left fun i hi => ?_
    rw [List.mem_range] at hi
    show Value.int .i64 ((g i : Nat) : Int) = Value.int .i64 ((f i : Nat) : Int)
    rw [hg i hi]
  rw [e]
  exact h.1
set_option maxHeartbeats 2000000 in
set_option maxRecDepth 100000 in
theorem inEdges_any {w : World} {a b : Option Addr} {n c m d : Nat} {S : Nat → Sl} (h : SlotsAt w a n S) (hn : n ≤ 65536) :
    Calls Try.prog 71 #[.agg #[.slice a n c, .slice b m d]] w (MadeRow w n fun i => eg S n (i + 1)) := by
  obtain ⟨i0, hi, hz0, hz1, hz2⟩ := info_parts i64sInfo
  have hni : (n : Int) ≤ 65536 := by omega
  have hni0 : (0 : Int) ≤ (n : Int) := by omega
  have hb1 : Below w.heap.size w (w.alloc (Obj.cells #[Value.slice a n c, Value.slice b m d] 33)) := (Below.refl _ _).alloc (Nat.le_refl _) _
  have HB := Lib.hid hb1
  have HS := Lib.hid (h.below hb1)
  have HX := Lib.hid (DBox.new w a b n c m d)
  have hsz : (w.alloc (Obj.cells #[Value.slice a n c, Value.slice b m d] 33)).heap.size = w.heap.size + 1 := by simp
  have HZ := Lib.hid hsz
  obtain ⟨hc0, hc1⟩ := HX.out.cells
  clear hb1 h hsz
  go_enter Try.func71, Try.ntmps71
  go_upto_region 1 with fail
  generalize hW1 : w.alloc (Obj.cells #[Value.slice a n c, Value.slice b m d] 33) = w1 at *
  clear hW1
  generalize hQ : w.heap.size = q at *
  have HQ := Lib.hid hQ
  clear hQ
  go_wp2_with (refine wpList_make_full _ rfl (.tmp 9) (.tmp 9) 122 rfl (q + 1) 3 i0 (.int .i64 0) 1 Try.underlying122 hi hz0 hz1 .i64 .i64 (n : Int) (n : Int) n rfl rfl rfl rfl (by rw [hz2]; omega) (by unfold maxLen; omega) (Nat.le_of_eq HZ.out.symm) ?_; intro w2 ho2 hg2)
  rw [natR_zero, HZ.out] at ho2
  rw [HZ.out]
  have hb2 : Below (q + 1) w1 w2 := (Below.refl _ _).grown hg2 (Nat.le_of_eq HZ.out.symm) (fun k hk => by cases hk)
  have HE : Hid (EdgeRel S n q w1 (fun i => eg S 0 (i + 1)) w2) := ⟨by simpa [eg] using ho2, hb2⟩
  clear hg2 ho2 hb2 hc0 hc1
  go_loopw [4] (fun i wr => ∃ k : Nat, k ≤ n ∧ i = .int .i64 (k : Int) ∧ EdgeRel S n q w1 (fun i => eg S k (i + 1)) wr) (fun i _ => n - (intOf i).toNat)
  case atStart => exact ⟨0, Nat.zero_le _, rfl, HE.out⟩
  case round =>
    clear HE
    obtain ⟨k, hk, rfl, hE⟩ := hrel
    have hb := hE.2
    have hs := hb.size
    have hX := HX.out.below hb (by omega)
    obtain ⟨hc0, hc1⟩ := hX.cells
    by_cases hlt : k < n
    · have hki : (k : Int) < (n : Int) := by omega
      have hki0 : (0 : Int) ≤ (k : Int) := by omega
      have hS := HS.out.below (hb.mono (Nat.le_of_eq HZ.out))
      obtain ⟨b', off, rfl, hlb, d0, d1, d2, d3, d4, d5, d6, d7, d8, d9, d10⟩ := hS.all hlt
      obtain ⟨hl1, hl2⟩ := hS.kid k hlt
      have HE := Lib.hid hE
      have HSS := Lib.hid hS
      clear hS hE hX
      go_wp2_with fail
      refine (kids_any _ _ _ _ _ _ _ _ _ _ _ _).mono ?_
      rintro e w3 ⟨rfl, hb3⟩
      clear hc0 hc1 d0 d1 d2 d3 d4 d5 d6 d7 d8 d9 d10
      go_wp2
      have hE3 := HE.out.below hb3 (Nat.le_of_eq HZ.out.symm)
      have hal := (Below.refl w3.heap.size w3).alloc (Nat.le_refl _) (Obj.cells #[Value.int .u32 ((S k).nd.left : Int), .int .u32 ((S k).nd.right : Int)] 129)
      have hE4 := hE3.below hal (Nat.le_of_eq HZ.out.symm)
      have hkb : q + 1 < w3.heap.size := (row_lt hE3.1 (q + 1) rfl).2
      have hK := heap_alloc_new w3 (Obj.cells #[Value.int .u32 ((S k).nd.left : Int), .int .u32 ((S k).nd.right : Int)] 129)
      have HK : Hid (EdgeRel S n q w1 (fun i => eg S k (i + 1) + ph 0 (S k) (i + 1)) (w3.alloc (Obj.cells #[Value.int .u32 ((S k).nd.left : Int), .int .u32 ((S k).nd.right : Int)] 129)) ∧ (w3.alloc (Obj.cells #[Value.int .u32 ((S k).nd.left : Int), .int .u32 ((S k).nd.right : Int)] 129)).heap[w3.heap.size]? = some (Obj.cells #[Value.int .u32 ((S k).nd.left : Int), .int .u32 ((S k).nd.right : Int)] 129)) := ⟨hE4.same (fun i _ => by rw [ph_zero]; rfl), hK⟩
      generalize w3.alloc (Obj.cells #[Value.int .u32 ((S k).nd.left : Int), .int .u32 ((S k).nd.right : Int)] 129) = w4 at HK ⊢
      generalize w3.heap.size = kb at hkb HK ⊢
      clear hE3 hal hE4 hK hb3 hb hs hlb
      go_loopw [6] (fun i w5 => ∃ t : Nat, t ≤ 2 ∧ i = .int .i64 (t : Int) ∧ EdgeRel S n q w1 (fun i => eg S k (i + 1) + ph t (S k) (i + 1)) w5 ∧ w5.heap[kb]? = some (Obj.cells #[Value.int .u32 ((S k).nd.left : Int), .int .u32 ((S k).nd.right : Int)] 129)) (fun i _ => 2 - (intOf i).toNat)
      case atStart => exact ⟨0, by omega, rfl, HK.out.1, HK.out.2⟩
      case round =>
        clear HK
        obtain ⟨t, ht, rfl, hE, hK⟩ := hrel
        have hb := hE.2
        by_cases htl : t < 2
        · have hti : (t : Int) < 2 := by omega
          have hti0 : (0 : Int) ≤ (t : Int) := by omega
          obtain ⟨hc0, hc1⟩ := (HX.out.below hb (by omega)).cells
          obtain ⟨b2, off2, hbo, hlb, d0, _⟩ := (HS.out.below (hb.mono (Nat.le_of_eq HZ.out))).all hlt
          simp only [Option.some.injEq, Addr.mk.injEq, and_true] at hbo
          obtain ⟨rfl, rfl⟩ := hbo
          have hkt := kid_at (s := S k) hK htl
          have hX4 : (kd (S k) t) < 4294967296 := by unfold kd; split <;> assumption
          have hph := fun x => ph_succ t (S k) x
          have HP := Lib.hid hph
          have HKB := Lib.hid hK
          clear hph hK hb hc1
          generalize hXX : kd (S k) t = X at hkt hX4
          have HXX := Lib.hid hXX
          clear hXX
          have hXi : (X : Int) < 4294967296 := by omega
          by_cases hon : (S k).on = true ∧ 1 ≤ X ∧ X ≤ n
          · obtain ⟨hon, hx1, hx2⟩ := hon
            obtain ⟨j, rfl⟩ : ∃ j, X = j + 1 := ⟨X - 1, by omega⟩
            have HON := Lib.hid hon
            rw [hon] at d0
            have hjn : j < n := by omega
            have hji : (j : Int) < (n : Int) := by omega
            have hj1 : (1 : Int) ≤ (j : Int) + 1 := by omega
            have hjn2 : (j : Int) + 1 ≤ (n : Int) := by omega
            have hxw : ((j + 1 : Nat) : Int) = (j : Int) + 1 := by omega
            have hcj := (hE.1.cellAt j (by omega)).trans (natR_at _ hjn)
            have hfj := hE.1.frozenAt j
            have hle := eg_le S k (j + 1)
            have hle2 := ph_le t (S k) (j + 1)
            have HE := Lib.hid hE
            generalize hT : eg S k (j + 1) + ph t (S k) (j + 1) = T at hcj
            have HT := Lib.hid hT
            have hTi : (T : Int) ≤ 1000000 := by omega
            have hTi0 : (0 : Int) ≤ (T : Int) := by omega
            clear hT hE hon hx1 hx2 hle hle2
            go_wp2
            refine ⟨⟨t + 1, by omega, by go_num, HE.out.store j _ ?_ (Nat.le_of_eq HZ.out.symm) ?_, (heap_setCell_other _ _ _ _ (by show kb ≠ q + 1; omega)).trans HKB.out⟩, by simp [intOf]; omega⟩
            · rw [HP.out, if_pos ⟨HON.out, HXX.out⟩, ← Nat.add_assoc, HT.out]; omega
            · intro i hi hne
              rw [HP.out, if_neg (fun e => hne (by have := HXX.out.symm.trans e.2; omega))]; rfl
          · have hsame : EdgeRel S n q w1 (fun i => eg S k (i + 1) + ph (t + 1) (S k) (i + 1)) _ := hE.same (fun i hi => by
              rw [HP.out, if_neg (fun e => hon ⟨e.1, by have := HXX.out.symm.trans e.2; omega, by have := HXX.out.symm.trans e.2; omega⟩)]; rfl)
            have HSM := Lib.hid hsame
            clear hsame hE
            cases ho : (S k).on
            · rw [ho] at d0
              clear ho hon
              go_wp2
              exact ⟨⟨t + 1, by omega, by go_num, HSM.out, HKB.out⟩, by simp [intOf]; omega⟩
            · rw [ho] at d0
              by_cases hx0 : X = 0
              · subst hx0
                clear ho hon
                go_wp2
                exact ⟨⟨t + 1, by omega, by go_num, HSM.out, HKB.out⟩, by simp [intOf]; omega⟩
              · have h1 : (1 : Int) ≤ (X : Int) := by omega
                have h2 : ¬ (X : Int) ≤ (n : Int) := by
                  intro h3; exact hon ⟨ho, by omega, by omega⟩
                clear ho hon hx0
                go_wp2
                exact ⟨⟨t + 1, by omega, by go_num, HSM.out, HKB.out⟩, by simp [intOf]; omega⟩
        · obtain rfl : t = 2 := by omega
          have HEE := Lib.hid hE
          clear hE hK hb
          go_wp2
          exact ⟨⟨k + 1, by omega, by go_num, HEE.out.same (fun i _ => by rw [eg_succ])⟩, by simp [intOf]; omega⟩
    · obtain rfl : k = n := by omega
      have HE := Lib.hid hE
      have HBB := Lib.hid hb
      clear hE hX hc1
      go_wp2
      go_ret
      exact ⟨_, rfl, row_mono HE.out.1 (by rw [HQ.out]; omega), by rw [HQ.out]; exact HB.out.trans (HBB.out.mono (by omega))⟩
end Go.Proofs.Ytnimbgcploohiaa
set_option linter.unusedVariables false
namespace Go.Proofs.Ytnimbgcploohiaa
inductive Rch (S : Nat → Sl) (n : Nat) (rs : List Nat) : Nat → Prop where
  | root (x : Nat) : x ∈ rs → Al S n x → Rch S n rs x
  | kid (x t : Nat) : Rch S n rs x → t < 2 → Al S n (kd (S (x - 1)) t) → Rch S n rs (kd (S (x - 1)) t)
theorem Rch.al {S : Nat → Sl} {n : Nat} {rs : List Nat} {x : Nat} (h : Rch S n rs x) : Al S n x := by
  cases h with
  | root _ _ h => exact h
  | kid _ _ _ _ h => exact h
def setB (B : Nat → Bool) (j : Nat) : Nat → Bool := fun i => if i = j then true else B i
structure MInv (S : Nat → Sl) (n : Nat) (rs : List Nat) (B : Nat → Bool) (st : List Nat) : Prop where
  sound : ∀ j, j < n → B j = true → Rch S n rs (j + 1)
  stack : ∀ x ∈ st, Al S n x → Rch S n rs x
  roots : ∀ x ∈ rs, Al S n x → B (x - 1) = true ∨ x ∈ st
  kids : ∀ j, j < n → B j = true → ∀ t, t < 2 → Al S n (kd (S j) t) → B (kd (S j) t - 1) = true ∨ kd (S j) t ∈ st
theorem MInv.start (S : Nat → Sl) (n : Nat) (rs : List Nat) : MInv S n rs (fun _ => false) rs :=
  ⟨(fun j _ h => (by cases h)), (fun x h1 h2 => .root x h1 h2), (fun x h _ => .inr h), (fun j _ h => (by cases h))⟩
theorem MInv.skip {S : Nat → Sl} {n : Nat} {rs : List Nat} {B : Nat → Bool} {t : List Nat} {x : Nat} (h : MInv S n rs B (t ++ [x])) (hx : Al S n x → B (x - 1) = true) : MInv S n rs B t := by
  have key : ∀ y, Al S n y → (B (y - 1) = true ∨ y ∈ t ++ [x]) → B (y - 1) = true ∨ y ∈ t := fun y hy h1 => by
    rcases h1 with h1 | h1
    · exact .inl h1
    · rcases List.mem_append.1 h1 with h2 | h2
      · exact .inr h2
      · simp at h2; subst h2; exact .inl (hx hy)
  exact ⟨h.sound, fun y hy => h.stack y (by simp [hy]), fun y h1 h2 => key y h2 (h.roots y h1 h2), fun j h1 h2 u hu h3 => key _ h3 (h.kids j h1 h2 u hu h3)⟩
theorem MInv.mark {S : Nat → Sl} {n : Nat} {rs : List Nat} {B : Nat → Bool} {t : List Nat} {j : Nat} (h : MInv S n rs B (t ++ [j + 1])) (hx : Al S n (j + 1)) : MInv S n rs (setB B j) (t ++ [(S j).nd.left, (S j).nd.right]) := by
  have hr : Rch S n rs (j + 1) := h.stack _ (by simp) hx
  have hB : ∀ i, B i = true → setB B j i = true := fun i hi => by unfold setB; split <;> simp [hi]
  have key : ∀ y, Al S n y → (B (y - 1) = true ∨ y ∈ t ++ [j + 1]) → setB B j (y - 1) = true ∨ y ∈ t ++ [(S j).nd.left, (S j).nd.right] := fun y hy h1 => by
    rcases h1 with h1 | h1
    · exact .inl (hB _ h1)
    · rcases List.mem_append.1 h1 with h2 | h2
      · exact .inr (by simp [h2])
      · simp at h2; subst h2; exact .inl (by unfold setB; simp)
  refine ⟨fun i hi hb => ?_, fun y hy ha => ?_, fun y h1 h2 => key y h2 (h.roots y h1 h2), fun i hi hb u hu h3 => ?_⟩
  · unfold setB at hb
    by_cases e : i = j
    · subst e; exact hr
    · rw [if_neg e] at hb; exact h.sound i hi hb
  · rcases List.mem_append.1 hy with h2 | h2
    · exact h.stack y (by simp [h2]) ha
    · simp at h2
      rcases h2 with rfl | rfl
      · exact Rch.kid (S := S) (j + 1) 0 hr (by decide) ha
      · exact Rch.kid (S := S) (j + 1) 1 hr (by decide) ha
  · unfold setB at hb
    by_cases e : i = j
    · subst e
      refine .inr ?_
      unfold kd
      split <;> simp
    · rw [if_neg e] at hb; exact key _ h3 (h.kids i hi hb u hu h3)
theorem MInv.done {S : Nat → Sl} {n : Nat} {rs : List Nat} {B : Nat → Bool} (h : MInv S n rs B []) {j : Nat} (hj : j < n) : B j = true ↔ Rch S n rs (j + 1) := by
  refine ⟨h.sound j hj, fun hr => ?_⟩
  have key : ∀ y, Rch S n rs y → B (y - 1) = true := fun y hy => by
    induction hy with
    | root x h1 h2 =>
      rcases h.roots x h1 h2 with h3 | h3
      · exact h3
      · cases h3
    | kid x t h1 h2 h3 ih =>
      have h4 := h1.al
      obtain ⟨h5, h6, _⟩ := h4
      rcases h.kids (x - 1) (by omega) ih t h2 h3 with h7 | h7
      · exact h7
      · cases h7
  exact key _ hr
/-- how many are not marked -/
def um : Nat → (Nat → Bool) → Nat
  | 0, _ => 0
  | n + 1, B => um n B + if B n = true then 0 else 1
theorem um_le (B : Nat → Bool) : ∀ n, um n B ≤ n
  | 0 => Nat.le_refl _
  | n + 1 => by unfold um; have := um_le B n; split <;> omega
theorem um_out (B : Nat → Bool) (j : Nat) : ∀ n, n ≤ j → um n (setB B j) = um n B
  | 0, _ => rfl
  | n + 1, h => by
    unfold um
    rw [um_out B j n (by omega)]
    have : setB B j n = B n := by unfold setB; rw [if_neg (by omega)]
    rw [this]
theorem um_set (B : Nat → Bool) {j : Nat} (hb : B j = false) : ∀ n, j < n → um n (setB B j) + 1 = um n B
  | 0, h => by omega
  | n + 1, h => by
    unfold um
    by_cases e : j = n
    · subst e
      rw [um_out B j j (Nat.le_refl _), hb]
      have : setB B j j = true := by unfold setB; simp
      rw [this]
      simp
    · have ih := um_set B hb n (by omega)
      have : setB B j n = B n := by unfold setB; rw [if_neg (by omega)]
      rw [this]
      omega
end Go.Proofs.Ytnimbgcploohiaa
set_option linter.unusedVariables false
namespace Go.Proofs.Ytnimbgcploohiaa
open Go.RowKit
theorem bInfo : (Try.prog.info? 4).map (fun i => (i.zero, i.size, i.bytes)) = some (some (.bool false), 1, 1) := by kernel_rfl
theorem uInfo : (Try.prog.info? 35).map (fun i => (i.zero, i.size, i.bytes)) = some (some (.int .u32 0), 1, 4) := by kernel_rfl
def boolR (n : Nat) (B : Nat → Bool) : List Value := (List.range n).map fun i => .bool (B i)
theorem boolR_at {n i : Nat} (B : Nat → Bool) (h : i < n) : (boolR n B)[i]? = some (.bool (B i)) := by simp [boolR, h]
theorem boolR_zero (n : Nat) : (madeCells (Value.bool false).cells (n * 1)).toList = boolR n fun _ => false := by
  rw [Nat.mul_one]
  refine (toList_madeCells_one (.bool false) n).trans ?_
  unfold boolR
  simp [List.map_const']
theorem boolR_set {n : Nat} (B : Nat → Bool) (i : Nat) : (boolR n B).set i (.bool true) = boolR n (setB B i) := by
  apply List.ext_getElem?
  intro j
  unfold boolR setB
  rw [List.getElem?_set]
  by_cases hj : j < n
  · by_cases e : i = j
    · subst e; simp [hj]
    · have e2 : ¬ j = i := fun h => e h.symm
      simp [hj, e, e2]
  · by_cases e : i = j
    · subst e; simp [hj]
    · simp [hj, e]
theorem u32s_len (l : List Nat) : (u32s l).length = l.length := by simp [u32s]
theorem u32s_ones (l : List Nat) : ∀ u ∈ u32s l, u.oneCell' = true := by
  intro u hu
  unfold u32s at hu
  obtain ⟨i, _, rfl⟩ := List.mem_map.1 hu
  rfl
/-- append of a slice that reads as l to a row of the call's own -/
theorem wpList_append_at {P : Program} {w : World} {ops : Array Oper} {rest : List Oper} {o : Oper} {a : Act} {Q : Exit → Act → World → Prop} (hgd : o.guard = none) (s x : Operand) (t : TypeId)
    (ho : o.op = .call { callee := .builtin .append, args := #[s, x], argTypes := #[t, t] })
    (base : Nat) (e : TypeId) (i : TypeInfo) (z : Value) (bytes : Nat) (ht : P.underlying t = some (.slice e)) (hi : P.info? e = some i) (hz : i.zero = some z)
    (hsize : i.size = 1) (hby : i.bytes = bytes) (hzs : z.cells.size = 1)
    (v : Value) (n : Nat) (xs : List Value) (hs : a.eval s = v) (hown : w.ownsRow base e 1 v n xs)
    (ad : Option Addr) (c : Nat) (l : List Nat) (m : Nat) (hm : m = l.length) (hx : a.eval x = .slice ad m c) (hrow : U32At w ad l)
    (h63 : n + m ≤ maxLen) (hbytes : (n + m) * bytes ≤ 140737488355328) (hbase : base ≤ w.heap.size)
    (h : ∀ v' w', w'.ownsRow base e 1 v' (n + m) (xs ++ u32s l) → w.grownBy w' v.ownBlock → wpList P ops Q rest (a.put o.dst v') w') : wpList P ops Q (o :: rest) a w := by
  refine wpList_plain hgd fun _ hK => ?_
  have hK2 : ∀ v' w', w'.ownsRow base e 1 v' (n + m) (xs ++ u32s l) → w.grownBy w' v.ownBlock → _ := fun v' w' h2 h3 => hK _ _ (h v' w' h2 h3)
  subst hm
  cases ad with
  | some x0 =>
    refine wp_append_own w s x t ho base e i z 1 bytes ht hi hz hsize hby hzs (by decide) v n xs hs hown x0 l.length c (u32s l) hx (by rw [u32s_len]; omega) ?_ (u32s_ones l) h63 hbytes hbase fun v' w' h2 h3 _ => hK2 v' w' h2 h3
    intro j u hu
    have hj : j < l.length := by have := (List.getElem?_eq_some_iff.1 hu).1; rwa [u32s_len] at this
    obtain ⟨b, off, hb, _, hc⟩ := hrow.cell j hj
    simp only [Option.some.injEq] at hb
    subst hb
    rw [add_at, hc, ← hu]
    simp [u32s, List.getD_eq_getElem?_getD, hj]
  | none =>
    have hl : l = [] := by
      cases l with
      | nil => rfl
      | cons y t => obtain ⟨_, _, hb, _⟩ := hrow.cell 0 (by simp); cases hb
    subst hl
    have hrun := run_append_owned_none (P := P) (w := w) base t o.type e i 1 ht hi v n xs hown
    unfold Oper.wp
    simp only [List.length_nil] at hx
    have hc0 : ∀ c', (Builtin.append_ #[t, t] o.type #[v, .slice none 0 c']).run P w = .ok v w := fun c' => by
      refine Eq.trans ?_ (run_append_owned_none (P := P) (w := w) base t o.type e i 1 ht hi v n xs hown)
      rfl
    simp [execOp, ho, resolve, invoke, builtin, hs, hx, hc0, Result.andThen]
    exact hK2 _ _ (by simpa [u32s] using hown) (World.grownBy.refl _ _)
end Go.Proofs.Ytnimbgcploohiaa
set_option linter.unusedVariables false
namespace Go.Proofs.Ytnimbgcploohiaa
open Go.RowKit
def MadeMarks (w : World) (S : Nat → Sl) (n : Nat) (rs : List Nat) (e : Ending) (w' : World) : Prop :=
  ∃ g B, e = .returned (.slice (some ⟨g, 0, none⟩) n n) ∧ w'.ownsRow w.heap.size 4 1 (.slice (some ⟨g, 0, none⟩) n n) n (boolR n B) ∧ (∀ j, j < n → (B j = true ↔ Rch S n rs (j + 1))) ∧ Below w.heap.size w w'
/-- the marks and the stack in memory -/
structure MarkRel (S : Nat → Sl) (n : Nat) (rs : List Nat) (q : Nat) (w1 : World) (gk : Nat) (x : Value) (B : Nat → Bool) (st : List Nat) (wr : World) : Prop where
  inv : MInv S n rs B st
  row : wr.ownsRow (q + 1) 4 1 (.slice (some ⟨q + 1, 0, none⟩) n n) n (boolR n B)
  val : ∃ a c, x = .slice a st.length c
  work : wr.ownsRow (q + 2) 35 1 x st.length (u32s st)
  lt : ∀ y ∈ st, y < 4294967296
  num : 3 * um n B + st.length ≤ gk
  big : gk ≤ 2000000
  below : Below (q + 1) w1 wr
section
variable {S : Nat → Sl} {n q gk gk' : Nat} {rs : List Nat} {w1 wr w' : World} {x x' : Value} {B : Nat → Bool} {st t : List Nat}
theorem MarkRel.from (h : MarkRel S n rs q w1 gk x B st wr) (hb : Below wr.heap.size wr w') (hs : q + 1 ≤ w1.heap.size) : MarkRel S n rs q w1 gk x B st w' :=
  ⟨h.inv, row_below h.row hb, h.val, row_below h.work hb, h.lt, h.num, h.big, h.below.trans (hb.mono (Nat.le_trans hs h.below.size))⟩
theorem MarkRel.pop {a : Option Addr} {c y : Nat} (h : MarkRel S n rs q w1 gk (.slice a (t.length + 1) c) B (t ++ [y]) wr) (hy : Al S n y → B (y - 1) = true) (hg : gk' < gk) (hg2 : 3 * um n B + t.length ≤ gk') : MarkRel S n rs q w1 gk' (.slice a t.length c) B t wr := by
  have hw := h.work
  rw [List.length_append] at hw
  obtain ⟨g, rfl⟩ := row_head hw (by simp)
  have h1 := row_cut hw (m := t.length) (by simp)
  rw [show (u32s (t ++ [y])).take t.length = u32s t by rw [u32s_app]; simp [u32s]] at h1
  exact ⟨h.inv.skip hy, h.row, ⟨_, _, rfl⟩, h1, fun z hz => h.lt z (by simp [hz]), hg2, by have := h.big; omega, h.below⟩
/-- a slot was marked, its children are not yet on the stack -/
structure MarkMid (n q : Nat) (w1 : World) (B : Nat → Bool) (x : Value) (t : List Nat) (wr : World) : Prop where
  row : wr.ownsRow (q + 1) 4 1 (.slice (some ⟨q + 1, 0, none⟩) n n) n (boolR n B)
  work : wr.ownsRow (q + 2) 35 1 x t.length (u32s t)
  below : Below (q + 1) w1 wr
theorem MarkMid.from (h : MarkMid n q w1 B x t wr) (hb : Below wr.heap.size wr w') (hs : q + 1 ≤ w1.heap.size) : MarkMid n q w1 B x t w' :=
  ⟨row_below h.row hb, row_below h.work hb, h.below.trans (hb.mono (Nat.le_trans hs h.below.size))⟩
theorem MarkRel.mid {a : Option Addr} {c j y : Nat} (h : MarkRel S n rs q w1 gk (.slice a (t ++ [y]).length c) B (t ++ [y]) wr) : MarkMid n q w1 (setB B j) (.slice a t.length c) t (wr.setCell ⟨q + 1, j, none⟩ (.bool true)) := by
  have hw := h.work
  rw [List.length_append] at hw
  obtain ⟨g, rfl⟩ := row_head hw (by simp)
  have h1 := row_cut hw (m := t.length) (by simp)
  rw [show (u32s (t ++ [y])).take t.length = u32s t by rw [u32s_app]; simp [u32s]] at h1
  refine ⟨?_, row_keep h1 fun k hk => heap_setCell_other _ _ _ _ ?_, h.below.setCell (Nat.le_refl _) _⟩
  · rw [← boolR_set]; exact (h.row.stored j _).1
  · have := row_from h1 k hk
    show k ≠ q + 1
    omega
theorem MarkMid.push {v : Value} {j : Nat} {w2 : World} (h : MarkMid n q w1 (setB B j) x t wr) (hr : MarkRel S n rs q w1 gk x' B (t ++ [j + 1]) w2) (hj : Al S n (j + 1)) (hb : B j = false) (hk : (S j).nd.left < 4294967296 ∧ (S j).nd.right < 4294967296)
    (hg : wr.grownBy w' x.ownBlock) (hv : w'.ownsRow (q + 2) 35 1 v (t.length + 2) (u32s t ++ [.int .u32 ((S j).nd.left : Int), .int .u32 ((S j).nd.right : Int)])) (h0 : 0 < gk) (hq : q + 1 ≤ w1.heap.size) :
    MarkRel S n rs q w1 (gk - 1) v (setB B j) (t ++ [(S j).nd.left, (S j).nd.right]) w' := by
  have hl : (t ++ [(S j).nd.left, (S j).nd.right]).length = t.length + 2 := by simp
  obtain ⟨a, c, hvv⟩ := row_val hv
  have hnum := hr.num
  rw [List.length_append] at hnum
  have hu := um_set B hb n (by have := hj.2.1; omega)
  refine ⟨hr.inv.mark hj, row_keep h.row fun k hk => hg.block k (row_lt h.row k hk).2 fun e => ?_, ⟨a, c, by rw [hl]; exact hvv⟩, ?_, fun y hy => ?_, ?_, by have := hr.big; omega, h.below.grown hg (Nat.le_trans hq h.below.size) fun k hk => ?_⟩
  · simp [Value.ownBlock] at hk; have := row_from h.work k e.symm; omega
  · rw [hl, u32s_app]; exact hv
  · rcases List.mem_append.1 hy with h1 | h1
    · exact hr.lt y (by simp [h1])
    · simp at h1; rcases h1 with rfl | rfl
      · exact hk.1
      · exact hk.2
  · rw [hl]; simp at hnum; omega
  · have := row_from h.work k hk; omega
end
set_option maxHeartbeats 4000000 in
set_option maxRecDepth 100000 in
theorem marks_any {w : World} {a b ra : Option Addr} {n c m d rc : Nat} {S : Nat → Sl} (rs : List Nat) (h : SlotsAt w a n S) (hr : U32At w ra rs) (hn : n ≤ 65536) (hl : rs.length ≤ 1000000) :
    Calls Try.prog 72 #[.agg #[.slice a n c, .slice b m d], .slice ra rs.length rc] w (MadeMarks w S n rs) := by
  obtain ⟨i0, hi, hz0, hz1, hz2⟩ := info_parts bInfo
  obtain ⟨i1, ji, jz0, jz1, jz2⟩ := info_parts uInfo
  have hni : (n : Int) ≤ 65536 := by omega
  have hni0 : (0 : Int) ≤ (n : Int) := by omega
  have hb1 : Below w.heap.size w (w.alloc (Obj.cells #[Value.slice a n c, Value.slice b m d] 33)) := (Below.refl _ _).alloc (Nat.le_refl _) _
  have HB := Lib.hid hb1
  have HS := Lib.hid (h.below hb1)
  have HR := Lib.hid (hr.below hb1)
  have HX := Lib.hid (DBox.new w a b n c m d)
  have hsz : (w.alloc (Obj.cells #[Value.slice a n c, Value.slice b m d] 33)).heap.size = w.heap.size + 1 := by simp
  have HZ := Lib.hid hsz
  obtain ⟨hc0, hc1⟩ := HX.out.cells
  obtain ⟨L, hL⟩ : ∃ L, rs.length = L := ⟨_, rfl⟩
  have HL := Lib.hid hL
  rw [hL] at hl ⊢
  have hLi : (L : Int) ≤ 1000000 := by omega
  clear hb1 h hr hsz hL
  go_enter Try.func72, Try.ntmps72
  go_upto_region 1 with fail
  generalize hW1 : w.alloc (Obj.cells #[Value.slice a n c, Value.slice b m d] 33) = w1 at *
  clear hW1
  generalize hQ : w.heap.size = q at *
  have HQ := Lib.hid hQ
  clear hQ
  go_upto_region 2 with (refine wpList_make_full _ rfl (.tmp 11) (.tmp 11) 124 rfl (q + 1) 4 i0 (.bool false) 1 Try.underlying124 hi hz0 hz1 .i64 .i64 (n : Int) (n : Int) n rfl rfl rfl rfl (by rw [hz2]; omega) (by unfold maxLen; omega) (Nat.le_of_eq HZ.out.symm) ?_; intro w2 ho2 hg2; rw [HZ.out])
  rw [boolR_zero, HZ.out] at ho2
  have hb2 : Below (q + 1) w1 w2 := (Below.refl _ _).grown hg2 (Nat.le_of_eq HZ.out.symm) (fun k hk => by cases hk)
  have hs2 : q + 2 ≤ w2.heap.size := (row_lt ho2 (q + 1) rfl).2
  have hr2 := HR.out.below (hb2.mono (Nat.le_of_eq HZ.out))
  clear hg2
  go_upto_region 3 with (at_builtin; refine wpList_append_at rfl (.const (.slice none 0 0)) (.tmp 13) 31 rfl (q + 2) 35 i1 (.int .u32 0) 4 Try.underlying31 ji jz0 jz1 jz2 rfl (.slice none 0 0) 0 [] rfl (World.ownsRow_nil _ _ _ _) ra rc rs L HL.out.symm rfl hr2 (by unfold maxLen; omega) (by omega) hs2 ?_; intro v3 w3 ho3 hg3)
  rw [Nat.zero_add, List.nil_append] at ho3
  have hb3 : Below (q + 2) w2 w3 := (Below.refl _ _).grown hg3 hs2 (fun k hk => by cases hk)
  obtain ⟨a3, c3, hv3⟩ := row_val ho3
  have HM : Hid (MarkRel S n rs q w1 (3 * n + L) v3 (fun _ => false) rs w3) := by
    refine ⟨MInv.start S n rs, row_keep ho2 fun k hk => ?_, ⟨a3, c3, by rw [HL.out]; exact hv3⟩, by rw [HL.out]; exact ho3, HR.out.lt, ?_, by omega, hb2.trans (hb3.mono (by omega))⟩
    · simp [Value.ownBlock] at hk; subst hk; exact hb3.block _ (by omega)
    · have := um_le (fun _ => false) n; rw [HL.out]; omega
  clear ho2 hb2 hs2 hr2 ho3 hb3 hv3 hg3 hc0 hc1
  go_wp2_with fail
  go_loopg [6] (3 * n + L) (fun k x wr => ∃ B st, MarkRel S n rs q w1 k x B st wr)
  case atStart => exact ⟨_, _, HM.out⟩
  case round =>
    clear HM
    obtain ⟨B, st, hM⟩ := hrel
    have hb := hM.below
    obtain ⟨xa, xc, rfl⟩ := hM.val
    rcases List.eq_nil_or_concat st with rfl | ⟨t, y, rfl⟩
    · have HMM := Lib.hid hM
      clear hM hb
      rw [show ([] : List Nat).length = 0 from rfl]
      go_wp2
      go_ret
      exact ⟨_, B, rfl, row_mono HMM.out.row (by rw [HQ.out]; omega), fun j hj => HMM.out.inv.done hj, by rw [HQ.out]; exact HB.out.trans (HMM.out.below.mono (by omega))⟩
    · rw [List.concat_eq_append] at *
      obtain ⟨T, hT⟩ : ∃ T, t.length = T := ⟨_, rfl⟩
      have hTl : (t ++ [y]).length = T + 1 := by rw [List.length_append, hT]; rfl
      have hw := hM.work
      rw [hTl] at hw
      obtain ⟨g, rfl⟩ := row_head hw (by omega)
      have hcap := row_caps hw
      have hcy := hw.cellAt T (by omega)
      rw [← hT, u32s_last, hT] at hcy
      have hy4 : y < 4294967296 := hM.lt y (by simp)
      have hTb : T + 1 ≤ 2000000 := by have h8 := hM.num; have h9 := hM.big; rw [hTl] at h8; omega
      have hTi : (T : Int) + 1 ≤ 2000000 := by omega
      have hTi0 : (0 : Int) ≤ (T : Int) := by omega
      have hxc : (T : Int) + 1 ≤ (xc : Int) := by omega
      have hxc2 : (xc : Int) ≤ 9223372036854775807 := by have := hcap.2; unfold maxLen at this; omega
      have hX := HX.out.below hb (by omega)
      obtain ⟨hc0, hc1⟩ := hX.cells
      have hSS := HS.out.below (hb.mono (Nat.le_of_eq HZ.out))
      have HMM := Lib.hid hM
      have HTT := Lib.hid hT
      have HSS := Lib.hid hSS
      have HTL := Lib.hid hTl
      rw [hTl]
      clear hM hw hcap hT hTb hX hSS hTl
      go_wp2_with fail
      refine (dallocated_any HSS.out hn hy4).mono ?_
      rintro e w4 ⟨rfl, hb4⟩
      have hM4 := HMM.out.from hb4 (Nat.le_of_eq HZ.out.symm)
      have hbb := hM4.below
      clear hcy hc0 hc1
      have hnum := HMM.out.num
      rw [HTL.out] at hnum
      by_cases hal : Al S n y
      · rw [show decide (1 ≤ y ∧ y ≤ n ∧ (S (y - 1)).on = true) = true from decide_eq_true hal]
        obtain ⟨j, rfl⟩ : ∃ j, y = j + 1 := ⟨y - 1, by have := hal.1; omega⟩
        have hjn : j < n := by have := hal.2.1; omega
        have hji : (j : Int) < (n : Int) := by omega
        have hj0 : (0 : Int) ≤ (j : Int) := by omega
        have hyi : ((j + 1 : Nat) : Int) = (j : Int) + 1 := by omega
        have hcB := (hM4.row.cellAt j (by omega)).trans (boolR_at B hjn)
        have hfB := hM4.row.frozenAt j
        have HAL := Lib.hid hal
        have HM4 := Lib.hid hM4
        have HN := Lib.hid hnum
        clear hal hM4 hb4 hnum hb
        cases hBj : B j
        · rw [hBj] at hcB
          have HBJ := Lib.hid hBj
          clear hBj
          have hMid := HM4.out.mid (j := j)
          rw [HTT.out] at hMid
          go_upto_region 8 with fail
          clear hcB hfB hbb
          have hbb := hMid.below
          have HMid := Lib.hid hMid
          generalize w4.setCell ⟨q + 1, j, none⟩ (.bool true) = w5 at HMid hbb ⊢
          obtain ⟨hc0, hc1⟩ := (HX.out.below hbb (by omega)).cells
          obtain ⟨b', off, rfl, hlb, d0, d1, d2, d3, d4, d5, d6, d7, d8, d9, d10⟩ := (HS.out.below (hbb.mono (Nat.le_of_eq HZ.out))).all hjn
          clear hMid hbb
          go_wp2_with fail
          refine (kids_any _ _ _ _ _ _ _ _ _ _ _ _).mono ?_
          rintro e w6 ⟨rfl, hb6⟩
          clear hc0 hc1 d0 d1 d2 d3 d4 d5 d6 d7 d8 d9 d10
          have hM6 := HMid.out.from hb6 (Nat.le_of_eq HZ.out.symm)
          have hal7 := (Below.refl w6.heap.size w6).alloc (Nat.le_refl _) (Obj.cells #[Value.int .u32 ((S j).nd.left : Int), .int .u32 ((S j).nd.right : Int)] 129)
          have hM7 := hM6.from hal7 (Nat.le_of_eq HZ.out.symm)
          have hK := heap_alloc_new w6 (Obj.cells #[Value.int .u32 ((S j).nd.left : Int), .int .u32 ((S j).nd.right : Int)] 129)
          go_upto_region 9 with fail
          generalize w6.alloc (Obj.cells #[Value.int .u32 ((S j).nd.left : Int), .int .u32 ((S j).nd.right : Int)] 129) = w7 at hM7 hK ⊢
          clear hM6 hal7 hb6 hlb
          generalize w6.heap.size = kb at hK ⊢
          obtain ⟨k0, k1⟩ := two_cells hK
          have hal8 := (Below.refl w7.heap.size w7).alloc (Nat.le_refl _) (Obj.cells #[Value.int .u32 ((S j).nd.left : Int), .int .u32 ((S j).nd.right : Int)] 35)
          have hM8 := hM7.from hal8 (Nat.le_of_eq HZ.out.symm)
          have hs8 : q + 2 ≤ (w7.alloc (Obj.cells #[Value.int .u32 ((S j).nd.left : Int), .int .u32 ((S j).nd.right : Int)] 35)).heap.size := (row_lt hM8.row (q + 1) rfl).2
          have HM8 := Lib.hid hM8
          have hwk := hM8.work
          rw [HTT.out] at hwk
          clear hM7 hal8 hM8 hK
          go_wp2_with (at_builtin; refine wpList_append_own _ rfl (.tmp 51) (.tmp 56) 31 rfl (q + 2) 35 i1 (.int .u32 0) 1 4 Try.underlying31 ji jz0 jz1 jz2 rfl (by decide) _ T (u32s t) rfl hwk ⟨w7.heap.size, 0, none⟩ 2 2 [.int .u32 ((S j).nd.left : Int), .int .u32 ((S j).nd.right : Int)] rfl rfl (cell_new2 _ _ _ _) (one_cell2 _ _ _) (by unfold maxLen; omega) (by omega) hs8 ?_; intro v9 w9 ho9 hg9 _)
          rw [← HTT.out] at ho9
          go_roundg (gk - 1)
          case measure => have := HN.out; omega
          case rel => exact ⟨setB B j, _, HM8.out.push HM4.out HAL.out HBJ.out (HS.out.kid j hjn) hg9 ho9 (by have := HN.out; omega) (Nat.le_of_eq HZ.out.symm)⟩
        · rw [hBj] at hcB
          have HBJ := Lib.hid hBj
          clear hBj hbb
          go_wp2
          go_roundg (gk - 1)
          case measure => have := HN.out; omega
          case rel =>
            have h9 := HM4.out
            rw [HTL.out] at h9
            rw [← HTT.out] at h9 ⊢
            exact ⟨B, t, h9.pop (fun _ => HBJ.out) (by have := HN.out; omega) (by have := HN.out; have := HTT.out; omega)⟩
      · rw [show decide (1 ≤ y ∧ y ≤ n ∧ (S (y - 1)).on = true) = false from decide_eq_false hal]
        have HAL := Lib.hid hal
        have HM4 := Lib.hid hM4
        have HN := Lib.hid hnum
        clear hal hM4 hb4 hnum hb hbb
        go_wp2
        go_roundg (gk - 1)
        case measure => have := HN.out; omega
        case rel =>
          have h9 := HM4.out
          rw [HTL.out] at h9
          rw [← HTT.out] at h9 ⊢
          exact ⟨B, t, h9.pop (fun h => absurd h HAL.out) (by have := HN.out; omega) (by have := HN.out; have := HTT.out; omega)⟩
end Go.Proofs.Ytnimbgcploohiaa
set_option linter.unusedVariables false
namespace Go.Proofs.Ytnimbgcploohiaa
def fdV (f : Fd) : List Value := [.int .i64 f.kind, .int .u32 (f.slot : Int), .int .i64 f.want, .int .i64 f.have_]
def fdsV (l : List Fd) : List Value := l.flatMap fdV
theorem fdsV_snoc (l : List Fd) (f : Fd) : fdsV (l ++ [f]) = fdsV l ++ fdV f := by simp [fdsV]
theorem opt_le (b : Bool) (f : Fd) : (opt b f).length ≤ 1 := by unfold opt; split <;> simp
section
variable (S : Nat → Sl) (n : Nat) (fr rs : List Nat) (R : Nat → Bool)
def kidF (i t : Nat) : List Fd := opt (!decide (Al S n (kd (S i) t)) && kd (S i) t != 0) ⟨2, i + 1, 0, ((kd (S i) t : Nat) : Int)⟩
def kidsF (i t : Nat) : List Fd := (List.range t).flatMap (kidF S n i)
/-- the findings of slot i + 1 -/
def chk1 (i : Nat) : List Fd := F1 S fr i ++ ((if (S i).on = true then kidsF S n i 2 ++ F3 S n i else []) ++ (F4 S n rs i ++ F5 S R i))
def chks (k : Nat) : List Fd := (List.range k).flatMap (chk1 S n fr rs R)
def rngF (x : Nat) : List Fd := opt (decide (x < 1) || decide (n < x)) ⟨6, x, 0, 0⟩
def rootF (x : Nat) : List Fd := opt (x != 0 && !decide (Al S n x)) ⟨7, x, 0, 0⟩
def chk : List Fd := chks S n fr rs R n ++ (fr.flatMap (rngF n) ++ rs.flatMap (rootF S n))
theorem kidsF_succ (i t : Nat) : kidsF S n i (t + 1) = kidsF S n i t ++ kidF S n i t := by simp [kidsF, List.range_succ]
theorem chks_succ (k : Nat) : chks S n fr rs R (k + 1) = chks S n fr rs R k ++ chk1 S n fr rs R k := by simp [chks, List.range_succ]
theorem chk1_le (i : Nat) : (chk1 S n fr rs R i).length ≤ 6 := by
  unfold chk1
  rw [List.length_append, List.length_append, List.length_append]
  have h1 : (F1 S fr i).length ≤ 1 := opt_le _ _
  have h2 : (F4 S n rs i).length ≤ 1 := opt_le _ _
  have h3 : (F5 S R i).length ≤ 1 := opt_le _ _
  have h4 : (if (S i).on = true then kidsF S n i 2 ++ F3 S n i else []).length ≤ 3 := by
    split
    · rw [List.length_append]
      have h5 : (F3 S n i).length ≤ 1 := opt_le _ _
      have h6 : (kidsF S n i 2).length ≤ 2 := by
        rw [kidsF_succ, kidsF_succ]
        simp only [List.length_append]
        have h7 : (kidF S n i 0).length ≤ 1 := opt_le _ _
        have h8 : (kidF S n i 1).length ≤ 1 := opt_le _ _
        have h9 : (kidsF S n i 0).length = 0 := rfl
        omega
      omega
    · simp
  omega
theorem kidsF_le (i t : Nat) : (kidsF S n i t).length ≤ t := by
  induction t with
  | zero => simp [kidsF]
  | succ t ih => rw [kidsF_succ, List.length_append]; have : (kidF S n i t).length ≤ 1 := opt_le _ _; omega
theorem mid_le (i : Nat) : (if (S i).on = true then kidsF S n i 2 ++ F3 S n i else []).length ≤ 3 := by
  split
  · rw [List.length_append]
    have h5 : (F3 S n i).length ≤ 1 := opt_le _ _
    have h6 : (kidsF S n i 2).length ≤ 2 := by
      rw [kidsF_succ, kidsF_succ]
      simp only [List.length_append]
      have h7 : (kidF S n i 0).length ≤ 1 := opt_le _ _
      have h8 : (kidF S n i 1).length ≤ 1 := opt_le _ _
      have h9 : (kidsF S n i 0).length = 0 := rfl
      omega
    omega
  · simp
theorem chks_le (k : Nat) : (chks S n fr rs R k).length ≤ 6 * k := by
  induction k with
  | zero => simp [chks]
  | succ k ih => rw [chks_succ, List.length_append]; have := chk1_le S n fr rs R k; omega
theorem flat_le {l : List Nat} {f : Nat → List Fd} (h : ∀ x, (f x).length ≤ 1) : (l.flatMap f).length ≤ l.length := by
  induction l with
  | nil => simp
  | cons a t ih => rw [List.flatMap_cons, List.length_append, List.length_cons]; have := h a; omega
theorem flat_take {l : List Nat} {f : Nat → List Fd} {k : Nat} (h : k < l.length) : (l.take (k + 1)).flatMap f = (l.take k).flatMap f ++ f (l.getD k 0) := by
  rw [List.take_succ_eq_append_getElem h, List.flatMap_append, List.getD_eq_getElem?_getD, List.getElem?_eq_getElem h]
  simp
end
end Go.Proofs.Ytnimbgcploohiaa
set_option linter.unusedVariables false
namespace Go.Proofs.Ytnimbgcploohiaa
theorem al_on {A : Ar} (h : A.σ.Ok) (x : Nat) : Al A.sl A.σ.cap x ↔ A.σ.on x = true := by
  unfold Al Ar.sl
  constructor
  · rintro ⟨h1, h2, h3⟩
    rwa [show x - 1 + 1 = x by omega] at h3
  · intro h1
    have h2 := h.on x h1
    exact ⟨by omega, by omega, by rwa [show x - 1 + 1 = x by omega]⟩
theorem reach_rch {A : Ar} {l : List Nat} (h : A.Inv [] (hof l)) (k : Nat) (hr : A.Reach (hof l) k) : A.σ.on k = true → Rch A.sl A.σ.cap l k := by
  induction hr with
  | root i hi =>
    intro hk
    refine .root i ?_ ((al_on h.ok i).2 hk)
    unfold hof at hi
    split at hi
    · omega
    · exact List.count_pos_iff.1 hi
  | left k hk _ ih =>
    intro hk2
    have h1 := ih hk
    have h2 := h.ok.on k hk
    have h3 : kd (A.sl (k - 1)) 0 = (A.nd k).left := by unfold kd Ar.sl; rw [if_pos rfl, show k - 1 + 1 = k by omega]
    rw [← h3]
    exact .kid k 0 h1 (by decide) ((al_on h.ok _).2 (by rw [h3]; exact hk2))
  | right k hk _ ih =>
    intro hk2
    have h1 := ih hk
    have h2 := h.ok.on k hk
    have h3 : kd (A.sl (k - 1)) 1 = (A.nd k).right := by unfold kd Ar.sl; rw [if_neg (by decide), show k - 1 + 1 = k by omega]
    rw [← h3]
    exact .kid k 1 h1 (by decide) ((al_on h.ok _).2 (by rw [h3]; exact hk2))
theorem nodup_count {l : List Nat} (h : l.Nodup) (x : Nat) : l.count x = if x ∈ l then 1 else 0 := by
  by_cases e : x ∈ l
  · rw [if_pos e, List.nodup_iff_count.1 h |> fun h2 => Nat.le_antisymm (h2 x) (List.count_pos_iff.2 e)]
  · rw [if_neg e]; exact List.count_eq_zero.2 e
theorem eg_refs (A : Ar) (x : Nat) : eg A.sl A.σ.cap x = A.refs x := by
  unfold eg Ar.refs
  rw [List.range'_eq_map_range, List.map_map]
  congr 1
  refine List.map_congr_left fun k _ => ?_
  show ph 2 (A.sl k) x = A.edge (1 + k) x
  unfold ph Ar.edge Ar.sl
  rw [Nat.add_comm 1 k]
  by_cases h : A.σ.on (k + 1) = true
  · rw [if_pos h, if_pos h]; simp [List.range_succ, kd]
  · rw [if_neg h, if_neg h]
theorem wrap_fit {n : Int} (h : -9223372036854775808 ≤ n ∧ n ≤ 9223372036854775807) : IntKind.i64.wrap n = n := by rw [IntKind.wrap_i64]; omega
theorem flat_nil {α : Type} {l : List Nat} {f : Nat → List α} (h : ∀ x ∈ l, f x = []) : l.flatMap f = [] := by
  induction l with
  | nil => rfl
  | cons a t ih => rw [List.flatMap_cons, h a (by simp), ih fun x hx => h x (by simp [hx])]; rfl
theorem chk_sound {A : Ar} {l : List Nat} (h : A.Inv [] (hof l)) (ha : A.Agg) (hl : ∀ x ∈ l, x = 0 ∨ A.σ.on x = true) {R : Nat → Bool} (hR : ∀ j, j < A.σ.cap → (R j = true ↔ Rch A.sl A.σ.cap l (j + 1))) : chk A.sl A.σ.cap A.σ.free l R = [] := by
  unfold chk
  have h1 : A.σ.free.flatMap (rngF A.σ.cap) = [] := flat_nil fun x hx => by
    have := (h.ok.free x).1 hx
    unfold rngF opt
    rw [if_neg (by simp; omega)]
  have h2 : l.flatMap (rootF A.sl A.σ.cap) = [] := flat_nil fun x hx => by
    unfold rootF opt
    rw [if_neg]
    simp
    intro hx0
    rcases hl x hx with h3 | h3
    · exact absurd h3 hx0
    · exact (al_on h.ok x).2 h3
  rw [h1, h2, List.append_nil, List.append_nil]
  unfold chks
  refine flat_nil fun i hi => ?_
  rw [List.mem_range] at hi
  have hsl : (A.sl i).on = A.σ.on (i + 1) := rfl
  have hsn : (A.sl i).nd = A.nd (i + 1) := rfl
  have hsc : (A.sl i).cnt = A.cnt (i + 1) := rfl
  have hF1 : F1 A.sl A.σ.free i = [] := by
    unfold F1 opt
    rw [if_neg]
    simp
    rw [nodup_count h.ok.nodup]
    unfold wantFree
    rw [hsl]
    have hfr := h.ok.free (i + 1)
    by_cases ho : A.σ.on (i + 1) = true
    · rw [if_pos ho, if_neg (fun e => by have := (hfr.1 e).2.2; rw [ho] at this; cases this)]; rfl
    · rw [if_neg ho, if_pos (hfr.2 ⟨by omega, by omega, by simpa using ho⟩)]; rfl
  have hkid : A.σ.on (i + 1) = true → ∀ t, t < 2 → kd (A.sl i) t = 0 ∨ Al A.sl A.σ.cap (kd (A.sl i) t) := fun ho t ht => by
    have hc := h.child (i + 1) ho
    unfold kd
    rw [hsn]
    split
    · rcases hc.1 with h3 | h3
      · exact .inl h3
      · exact .inr ((al_on h.ok _).2 h3)
    · rcases hc.2 with h3 | h3
      · exact .inl h3
      · exact .inr ((al_on h.ok _).2 h3)
  have hF2 : A.σ.on (i + 1) = true → kidsF A.sl A.σ.cap i 2 = [] := fun ho => by
    unfold kidsF
    refine flat_nil fun t ht => ?_
    rw [List.mem_range] at ht
    unfold kidF opt
    rw [if_neg]
    simp
    intro h3
    rcases hkid ho t ht with h4 | h4
    · exact h4
    · exact absurd h4 h3
  have hF3 : A.σ.on (i + 1) = true → F3 A.sl A.σ.cap i = [] := fun ho => by
    have hn := congrArg Nd.size (ha.node (i + 1) ho)
    have hn2 : (A.node (A.nd (i + 1)).key (A.nd (i + 1)).val (A.nd (i + 1)).left (A.nd (i + 1)).right).size = 1 + A.sz (A.nd (i + 1)).left + A.sz (A.nd (i + 1)).right := rfl
    rw [hn2] at hn
    have hst : ∀ t, t < 2 → ∀ s : Int, (if Al A.sl A.σ.cap (kd (A.sl i) t) then IntKind.i64.wrap (s + (A.sl (kd (A.sl i) t - 1)).nd.size) else s) = IntKind.i64.wrap (s + A.sz (kd (A.sl i) t)) ∨ A.sz (kd (A.sl i) t) = 0 ∧ (if Al A.sl A.σ.cap (kd (A.sl i) t) then IntKind.i64.wrap (s + (A.sl (kd (A.sl i) t - 1)).nd.size) else s) = s := fun t ht s => by
      by_cases hal : Al A.sl A.σ.cap (kd (A.sl i) t)
      · rw [if_pos hal]
        have h5 := hal.1
        have h6 : (A.sl (kd (A.sl i) t - 1)).nd.size = A.sz (kd (A.sl i) t) := by
          unfold Ar.sz
          rw [if_neg (by omega)]
          show (A.nd (kd (A.sl i) t - 1 + 1)).size = _
          rw [show kd (A.sl i) t - 1 + 1 = kd (A.sl i) t by omega]
        exact .inl (by rw [h6])
      · rw [if_neg hal]
        rcases hkid ho t ht with h7 | h7
        · exact .inr ⟨by rw [h7]; rfl, rfl⟩
        · exact absurd h7 hal
    have hz : ∀ y, (y = 0 ∨ A.σ.on y = true) → 0 ≤ A.sz y ∧ A.sz y ≤ 2147483647 := fun y hy => by
      unfold Ar.sz
      split
      · exact ⟨Int.le_refl 0, by decide⟩
      · rcases hy with hy | hy
        · contradiction
        · have := ha.size y hy; omega
    have hc := h.child (i + 1) ho
    have hzl := hz _ hc.1
    have hzr := hz _ hc.2
    have k0 : kd (A.sl i) 0 = (A.nd (i + 1)).left := rfl
    have k1 : kd (A.sl i) 1 = (A.nd (i + 1)).right := rfl
    have e1 : szF A.sl A.σ.cap i 1 = 1 + A.sz (A.nd (i + 1)).left := by
      show (if Al A.sl A.σ.cap (kd (A.sl i) 0) then IntKind.i64.wrap (1 + (A.sl (kd (A.sl i) 0 - 1)).nd.size) else 1) = _
      rcases hst 0 (by decide) 1 with h8 | ⟨h8, h9⟩
      · rw [h8, k0]; exact wrap_fit (by omega)
      · rw [h9]; rw [k0] at h8; omega
    have e2 : szF A.sl A.σ.cap i 2 = 1 + A.sz (A.nd (i + 1)).left + A.sz (A.nd (i + 1)).right := by
      show (if Al A.sl A.σ.cap (kd (A.sl i) 1) then IntKind.i64.wrap (szF A.sl A.σ.cap i 1 + (A.sl (kd (A.sl i) 1 - 1)).nd.size) else szF A.sl A.σ.cap i 1) = _
      rcases hst 1 (by decide) (szF A.sl A.σ.cap i 1) with h8 | ⟨h8, h9⟩
      · rw [h8, k1, e1]; exact wrap_fit (by omega)
      · rw [h9, e1]; rw [k1] at h8; omega
    unfold F3 opt
    rw [if_neg]
    simp
    rw [e2, hsn]
    exact hn.symm
  have hF4 : F4 A.sl A.σ.cap l i = [] := by
    unfold F4 opt
    rw [if_neg]
    simp
    unfold wantCount
    rw [hsl, hsc]
    by_cases ho : A.σ.on (i + 1) = true
    · rw [if_pos ho, h.cnt (i + 1) ho, eg_refs]
      have : hof l (i + 1) = l.count (i + 1) := by unfold hof; rw [if_neg (by omega)]
      rw [this]
      simp
    · rw [if_neg ho, (h.off (i + 1) (by simpa using ho)).1]
  have hF5 : F5 A.sl R i = [] := by
    unfold F5 opt
    rw [if_neg]
    simp
    intro ho
    rw [hsl] at ho
    have hre := Ar.reach_all h ha 2147483648 (i + 1) ho (by have := (ha.size (i + 1) ho).1; omega)
    exact (hR i hi).2 (reach_rch h _ hre ho)
  unfold chk1
  rw [hF1, hF4, hF5]
  by_cases ho : A.σ.on (i + 1) = true
  · rw [hsl, if_pos ho, hF2 ho, hF3 ho]; rfl
  · rw [hsl, if_neg ho]; rfl
end Go.Proofs.Ytnimbgcploohiaa
set_option linter.unusedVariables false
namespace Go.Proofs.Ytnimbgcploohiaa
open Go.RowKit
theorem row_u32 {w : World} {B c : Nat} {a : Option Addr} {l : List Nat} (h : w.ownsRow B 35 1 (.slice a l.length c) l.length (u32s l)) (hl : ∀ y ∈ l, y < 4294967296) : U32At w a l := by
  refine ⟨fun j hj => ?_, hl⟩
  obtain ⟨g, rfl, hg, hc⟩ := row_cell h hj
  refine ⟨g, 0, rfl, hg, ?_⟩
  rw [Nat.zero_add, hc]
  simp [u32s, List.getD_eq_getElem?_getD, hj]
end Go.Proofs.Ytnimbgcploohiaa
set_option linter.unusedVariables false
set_option linter.unusedSimpArgs false
namespace Go.Proofs.Ytnimbgcploohiaa
open Go.RowKit
/-- the node at an index; a zero node where there is none -/
def Ar.nz (A : Ar) (i : Nat) : Nd := if A.σ.on i = true then A.nd i else Nd.zero
theorem ndRow_one (x : Nd) : (ndRow x).all (·.oneCell') = true := by simp [ndRow, Value.oneCell']
set_option maxHeartbeats 1000000 in
set_option maxRecDepth 100000 in
theorem refNode_any {w : World} {a b : Option Addr} {N c m d i : Nat} {A : Ar} (h : SlotsAt w a N A.sl) (hok : A.σ.Ok) (hN : A.σ.cap = N) (hi : i < 4294967296) :
    Calls Try.prog 43 #[.agg #[.slice a N c, .slice b m d], .int .u32 (i : Int)] w (Calm w (.agg (ndRow (A.nz i)))) := by
  have hcap := hok.cap2
  have hz : ∀ w, (zeroValue 66).run Try.prog w = .ok (.agg (ndRow Nd.zero)) w := by
    have h : (Try.prog.info? 66).map (·.zero) = some (some (.agg (ndRow Nd.zero))) := by kernel_rfl
    intro w
    cases hi : Try.prog.info? 66 with
    | none => simp [hi] at h
    | some i =>
      have hz : i.zero = some (.agg (ndRow Nd.zero)) := by simpa [hi] using h
      simp [zeroValue, typeInfo, hi, hz]
  have hin : (Try.prog.info? 66).map (·.size) = some 8 := by kernel_rfl
  have HI := Lib.hid hin
  have hal := al_on hok i
  obtain ⟨w1, hw1⟩ : ∃ w1, w1 = (w.alloc (Obj.cells #[Value.slice a N c, Value.slice b m d] 33)).alloc (Obj.cells (ndRow Nd.zero) 66) := ⟨_, rfl⟩
  have hb1 : Below w.heap.size w w1 := by rw [hw1]; exact ((Below.refl _ _).alloc (Nat.le_refl _) _).alloc (by simp) _
  have HB1 := Lib.hid hb1
  have hrow1 : w1.heap[w.heap.size + 1]? = some (.cells (ndRow Nd.zero) 66 (0, 0)) := by rw [hw1]; exact heap_alloc2_new w _ _
  have HR1 := Lib.hid hrow1
  have hbox : w1.heap[w.heap.size]? = some (.cells #[Value.slice a N c, Value.slice b m d] 33 (0, 0)) := by rw [hw1]; exact heap_alloc2_old w _ _
  obtain ⟨hc0, hc1⟩ := two_cells hbox
  have hs1 := h.below hb1
  have HS1 := Lib.hid hs1
  have HBOX := Lib.hid hbox
  have hcall := dallocated_any (b := b) (m := m) (d := d) (c := c) hs1 (by omega) hi
  have HC : Hid (Calls Try.prog 41 #[.agg #[.slice a N c, .slice b m d], .int .u32 (i : Int)] w1 (Calm w1 (.bool (A.σ.on i)))) := by
    have e : decide (1 ≤ i ∧ i ≤ N ∧ (A.sl (i - 1)).on = true) = A.σ.on i := by
      rw [← hN]
      have h2 : (1 ≤ i ∧ i ≤ A.σ.cap ∧ (A.sl (i - 1)).on = true) ↔ A.σ.on i = true := hal
      cases ho : A.σ.on i
      · exact decide_eq_false fun h3 => by rw [h2, ho] at h3; cases h3
      · exact decide_eq_true (h2.2 ho)
    rw [e] at hcall
    exact hcall
  clear hcall hal hs1 hrow1 hb1 hbox hin
  go_enter Try.func43, Try.ntmps43
  go_upto_region 1 with fail
  rw [← hw1]
  have HU : Hid _ := Lib.hid Try.underlying66
  have hq : w.heap.size + 1 < w1.heap.size := (Array.getElem?_eq_some_iff.1 HR1.out).1
  have hsz1 : w.heap.size ≤ w1.heap.size := by omega
  clear hw1 hz h
  go_wp2_with fail
  refine HC.out.mono ?_
  rintro e w2 ⟨rfl, hb2⟩
  have HR2 : Hid (w2.heap[w.heap.size + 1]? = some (.cells (ndRow Nd.zero) 66 (0, 0))) := (hb2.block _ hq).trans HR1.out
  have HB2 : Hid (Below w.heap.size w w2) := HB1.out.trans (hb2.mono hsz1)
  have hbox2 := (hb2.block w.heap.size (by omega)).trans HBOX.out
  obtain ⟨hc0, hc1⟩ := two_cells hbox2
  have hS2 := HS1.out.below hb2
  clear hbox2 hb2 hsz1 hq
  cases ho : A.σ.on i
  · have hnz : A.nz i = Nd.zero := by unfold Ar.nz; rw [ho]; rfl
    have HNZ := Lib.hid hnz
    clear hnz hS2 ho
    go_wp2_with (refine wpList_store_row rfl 66 (.tmp 4) (.tmp 9) rfl (w.heap.size + 1) (ndRow Nd.zero) rfl rfl 66 _ HR2.out HI.out rfl (ndRow_one _) ?_)
    exact bodyPost_ret (v := .agg (ndRow Nd.zero)) (results_cell_row rfl _ _ (w.heap.size + 1) 66 (ndRow Nd.zero) (0, 0) _ rfl (setRow_heap _ _ _ _ _ _ HR2.out) HU.out rfl HI.out) rfl ⟨by rw [HNZ.out], below_setRow HB2.out (Nat.le_succ _) _⟩
  · have hnz : A.nz i = A.nd i := by unfold Ar.nz; rw [ho]; rfl
    have h1 := hok.on i ho
    rw [hN] at h1
    obtain ⟨j, rfl⟩ : ∃ j, i = j + 1 := ⟨i - 1, by omega⟩
    obtain ⟨b', off, rfl, hlb, _, _, _, d3, d4, d5, d6, d7, d8, d9, d10⟩ := hS2.all (show j < N by omega)
    have e : (A.sl j).nd = A.nd (j + 1) := rfl
    rw [e] at d3 d4 d5 d6 d7 d8 d9 d10
    generalize A.nd (j + 1) = x at d3 d4 d5 d6 d7 d8 d9 d10 hnz
    have HNZ := Lib.hid hnz
    have hX1 : (1 : Int) ≤ ((j + 1 : Nat) : Int) := by omega
    obtain ⟨Xi, hXi⟩ : ∃ Y : Int, ((j + 1 : Nat) : Int) = Y := ⟨_, rfl⟩
    have hXw : IntKind.u32.wrap (Xi - 1) = Xi - 1 := by rw [IntKind.wrap_u32']; omega
    have hX2 : (Xi - 1).toNat = j := by omega
    have hX4 : Xi - 1 < (N : Int) := by omega
    have hX5 : (0 : Int) ≤ Xi - 1 := by omega
    rw [hXi] at hX1 ⊢
    clear hXi hnz hS2 ho h1 e hi
    go_wp2_with (refine wpList_store_row rfl 66 (.tmp 4) (.tmp 16) rfl (w.heap.size + 1) (ndRow x) rfl rfl 66 _ HR2.out HI.out rfl (ndRow_one _) ?_)
    exact bodyPost_ret (v := .agg (ndRow x)) (results_cell_row rfl _ _ (w.heap.size + 1) 66 (ndRow x) (0, 0) _ rfl (setRow_heap _ _ _ _ _ _ HR2.out) HU.out rfl HI.out) rfl ⟨by rw [HNZ.out], below_setRow HB2.out (Nat.le_succ _) _⟩
end Go.Proofs.Ytnimbgcploohiaa
set_option linter.unusedVariables false
set_option linter.unusedSimpArgs false
namespace Go.Proofs.Ytnimbgcploohiaa
open Go.RowKit
theorem ensV_len (l : List En) : (ensV l).length = l.length * 2 := by
  induction l with
  | nil => rfl
  | cons a t ih => simp only [ensV, List.flatMap_cons, List.length_append, List.length_cons] at ih ⊢; rw [ih]; simp [enV]; omega
theorem made_ens {w w' : World} {l : List En} {e : Ending} (h : MadeEns w l e w') (hw : ∀ e ∈ l, i64R e.key ∧ i64R e.val) {N : Nat} (hN : l.length = N) : ∃ a c, e = .returned (.slice a N c) ∧ EnsAt w' a l ∧ Below w.heap.size w w' := by
  subst hN
  obtain ⟨a, c, h1, h2, h3⟩ := h
  exact ⟨a, c, h1, ens_at h2 hw, h3⟩
end Go.Proofs.Ytnimbgcploohiaa
set_option linter.unusedVariables false
set_option linter.unusedSimpArgs false
namespace Go.Proofs.Ytnimbgcploohiaa
open Go.RowKit
theorem ensV_app (l m : List En) : ensV (l ++ m) = ensV l ++ ensV m := by simp [ensV]
theorem ensV_ones (l : List En) : ∀ u ∈ ensV l, u.oneCell' = true := by
  intro u hu
  obtain ⟨e, he, h⟩ := List.mem_flatMap.1 hu
  exact en_one e u h
theorem add_atE (b off j : Nat) : (⟨b, off, none⟩ : Addr).add j = ⟨b, off + j, none⟩ := by simp [Addr.add]
section
variable {Z : Nat} {w2 w w' : World} {l : List En} {v v' : Value}
theorem step_append_en {ops : Array Oper} {o : Oper} {a : Act} {K : Act → World → Prop} {Q : Exit → Act → World → Prop} {E : Prop} (hgd : o.guard = none) (s x : Operand)
    (ho : o.op = .call { callee := .builtin .append, args := #[s, x], argTypes := #[22, 22] })
    (hc : ESt Z w2 l v w) (hZ : w2.heap.size = Z) (hs : a.eval s = v) (e : En) (g : Nat) (hx : a.eval x = .slice (some ⟨g, 0, none⟩) 1 1)
    (hn : ∀ j u, (enV e)[j]? = some u → w.cell? ((⟨g, 0, none⟩ : Addr).add j) = some u) (hl : l.length ≤ 100000000)
    (h : ∀ v' w', ESt Z w2 (l ++ [e]) v' w' → w.grownBy w' v.ownBlock → K (a.put o.dst v') w') : if Region.wanted o (yielded ops a.tmps) = true then Oper.wp Try.prog o a w K Q else E := by
  have hw : Region.wanted o (yielded ops a.tmps) = true := by simp [Region.wanted, hgd]
  rw [if_pos hw]
  obtain ⟨i, ji, jz0, jz1, jz2⟩ := info_parts enInfo
  refine wp_append_own w s x 22 ho Z 58 i (.agg #[.int .i64 0, .int .i64 0]) 2 16 Try.underlying22 ji jz0 jz1 jz2 rfl (by decide) v l.length (ensV l) hs hc.row ⟨g, 0, none⟩ 1 1 (enV e) hx rfl hn (en_one e) (by unfold maxLen; omega) (by omega) (by have := hc.below.size; omega) ?_
  intro v' w' ho' hg _
  refine h v' w' ?_ hg
  obtain ⟨a', c', hv⟩ := row_val ho'
  refine ⟨⟨a', c', by rw [List.length_append]; exact hv⟩, ?_, hc.below.grown hg (by have := hc.below.size; omega) (row_from hc.row)⟩
  rw [List.length_append, ensV_snoc]
  exact ho'
end
/-- append of a row of entries to a row of the call's own -/
theorem wpList_append_rowE {ops : Array Oper} {rest : List Oper} {o : Oper} {a : Act} {w w2 : World} {Q : Exit → Act → World → Prop} {Z B : Nat} {l0 l : List En} {v : Value} (hgd : o.guard = none) (s x : Operand)
    (ho : o.op = .call { callee := .builtin .append, args := #[s, x], argTypes := #[22, 22] })
    (hc : ESt Z w2 l0 v w) (hZ : w2.heap.size = Z) (hs : a.eval s = v) (ad : Option Addr) (c m : Nat) (hm : l.length = m) (hx : a.eval x = .slice ad m c) (hrow : w.ownsRow B 58 2 (.slice ad m c) m (ensV l)) (hl : l0.length + m ≤ 100000000)
    (h : ∀ v' w', ESt Z w2 (l0 ++ l) v' w' → wpList Try.prog ops Q rest (a.put o.dst v') w') : wpList Try.prog ops Q (o :: rest) a w := by
  obtain ⟨i, ji, jz0, jz1, jz2⟩ := info_parts enInfo
  subst hm
  rcases hrow.2 with ⟨hv, hn⟩ | ⟨g, cap, cur, hv, hB, hcc, hn, hcm, hss, htt⟩
  · have hl0 : l = [] := List.eq_nil_of_length_eq_zero (by omega)
    rw [hv] at hx
    refine wpList_append_own_none hgd s x 22 ho Z 58 i 2 Try.underlying22 ji v l0.length (ensV l0) hs hc.row hx ?_
    exact h v w (by rw [hl0, List.append_nil]; exact hc)
  · simp only [Value.slice.injEq] at hv
    obtain ⟨rfl, _, _⟩ := hv
    refine wpList_append_own _ hgd s x 22 ho Z 58 i (.agg #[.int .i64 0, .int .i64 0]) 2 16 Try.underlying22 ji jz0 jz1 jz2 rfl (by decide) v l0.length (ensV l0) hs hc.row ⟨g, 0, none⟩ l.length c (ensV l) hx (ensV_len l) (fun j u hu => ?_) (ensV_ones l) (by unfold maxLen; omega) (by omega) (by have := hc.below.size; omega) ?_
    · have hj : j < l.length * 2 := by have := (List.getElem?_eq_some_iff.1 hu).1; rwa [ensV_len] at this
      rw [add_atE, Nat.zero_add, hrow.cellAt j hj, hu]
    · intro v' w' ho' hg _
      refine h v' w' ?_
      obtain ⟨a', c', hv⟩ := row_val ho'
      refine ⟨⟨a', c', by rw [List.length_append]; exact hv⟩, ?_, hc.below.grown hg (by have := hc.below.size; omega) (row_from hc.row)⟩
      rw [List.length_append, ensV_app]
      exact ho'
theorem below_alT {w0 w : World} (h : Below w0.heap.size w0 w) (o : Obj) : Below w0.heap.size w0 (w.alloc o) := h.trans ((below_newL w o).mono h.size)
end Go.Proofs.Ytnimbgcploohiaa
set_option linter.unusedVariables false
namespace Go.Proofs.Ytnimbgcploohiaa
theorem pls_zero (held : Nat → Nat) : pls held 0 = held := rfl
end Go.Proofs.Ytnimbgcploohiaa
set_option linter.unusedVariables false
namespace Go.Proofs.Ytnimbgcploohiaa
end Go.Proofs.Ytnimbgcploohiaa
set_option linter.unusedVariables false
set_option linter.unusedSimpArgs false
namespace Go.Proofs.Ytnimbgcploohiaa
open Go.RowKit
def ListSpec (A : Ar) (i : Nat) (t : Tr) : Prop := ∀ (w : World) (a b : Option Addr) (N c m d : Nat), A.σ.cap = N → SlotsAt w a N A.sl → t.size ≤ 1000000 →
  Calls Try.prog 44 #[.agg #[.slice a N c, .slice b m d], .int .u32 (i : Int)] w (MadeEns w (t.ents A.nd))
set_option maxHeartbeats 4000000 in
set_option maxRecDepth 100000 in
theorem listT_node {A : Ar} {i : Nat} {l r : Tr} (hok : A.σ.Ok) (h0 : i ≠ 0) (h1 : A.σ.on i = true) (ihl : ListSpec A (A.nd i).left l) (ihr : ListSpec A (A.nd i).right r) : ListSpec A i (.node i l r) := by
  intro w a b N c m d hN hS hsz
  have hi := hok.on i h1
  have hcap := hok.cap2
  have hi32 : i < 4294967296 := by omega
  have hne0 : ((i : Int) == 0) = false := by simp; omega
  have HI := Lib.hid hi32
  have HOK := Lib.hid hok
  have HON := Lib.hid h1
  have HN := Lib.hid hN
  have hsz2 : (Tr.node i l r).size = l.size + r.size + 1 := rfl
  have HSZ : Hid (l.size ≤ 1000000 ∧ r.size ≤ 1000000) := ⟨by omega, by omega⟩
  have hb1 := below_newL w (Obj.cells #[.slice a N c, .slice b m d] 33)
  have hx1 := heap_alloc_new w (Obj.cells #[.slice a N c, .slice b m d] 33)
  have hS1 := hS.below hb1
  have hg1 : w.heap.size < (w.alloc (Obj.cells #[.slice a N c, .slice b m d] 33)).heap.size := by simp
  have HL := Lib.hid ihl
  have HR := Lib.hid ihr
  clear hN hS hsz hsz2 ihl ihr hok h1 hi hcap hi32
  go_enter Try.func44, Try.ntmps44
  go_upto_region 1 with fail
  generalize w.alloc (Obj.cells #[.slice a N c, .slice b m d] 33) = w1 at hb1 hx1 hS1 hg1 ⊢
  generalize w.heap.size = g at hx1 hg1 ⊢
  have HB1 := Lib.hid hb1
  have HX1 := Lib.hid hx1
  have HS1 := Lib.hid hS1
  have HG1 := Lib.hid hg1
  obtain ⟨q0, q1⟩ := two_cells hx1
  clear hb1 hx1 hS1 hg1
  go_wp2_with fail
  refine (refNode_any (b := b) (m := m) (d := d) (c := c) HS1.out HOK.out HN.out HI.out).mono ?_
  rintro e w2 ⟨rfl, hb2⟩
  have hnz : A.nz i = A.nd i := by unfold Ar.nz; rw [HON.out]; rfl
  rw [hnz]
  have HB2 : Hid (Below w1.heap.size w1 w2) := hb2
  clear hnz q0 q1 hb2
  unfold ndRow
  have hb4 := below_newL w2 (Obj.cells (ndRow (A.nd i)) 66)
  have hn4 := heap_alloc_new w2 (Obj.cells (ndRow (A.nd i)) 66)
  have hg4 : w2.heap.size < (w2.alloc (Obj.cells (ndRow (A.nd i)) 66)).heap.size := by simp
  go_upto_region 4 with fail
  rw [show #[Value.int .i64 (A.nd i).key, .int .i64 (A.nd i).val, .int .u32 ((A.nd i).left : Int), .int .u32 ((A.nd i).right : Int), .int .i64 (A.nd i).size, .int .i64 (A.nd i).sum, .int .i64 (A.nd i).mn, .int .i64 (A.nd i).mx] = ndRow (A.nd i) from rfl]
  have HB4 : Hid (Below w1.heap.size w1 (w2.alloc (Obj.cells (ndRow (A.nd i)) 66))) := HB2.out.trans (hb4.mono HB2.out.size)
  generalize w2.alloc (Obj.cells (ndRow (A.nd i)) 66) = w4 at hn4 hg4 HB4 ⊢
  generalize w2.heap.size = gn at hn4 hg4 ⊢
  have HN4 := Lib.hid hn4
  have HG4 := Lib.hid hg4
  clear hb4 hn4 hg4 HB2
  obtain ⟨kx, hkx⟩ : ∃ x, (A.nd i).key = x := ⟨_, rfl⟩
  obtain ⟨vx, hvx⟩ : ∃ x, (A.nd i).val = x := ⟨_, rfl⟩
  obtain ⟨lx, hlx⟩ : ∃ x, (A.nd i).left = x := ⟨_, rfl⟩
  obtain ⟨rx, hrx⟩ : ∃ x, (A.nd i).right = x := ⟨_, rfl⟩
  have HENT : Hid ((Tr.node i l r).ents A.nd = l.ents A.nd ++ ⟨kx, vx⟩ :: r.ents A.nd) := by show _ = _; rw [Tr.ents_node, hkx, hvx]
  have HC : Hid (∀ wx, Below w4.heap.size w4 wx → (wx.cell? ⟨g, 0, none⟩ = some (.slice a N c) ∧ wx.cell? ⟨g, 1, none⟩ = some (.slice b m d)) ∧ (wx.cell? ⟨gn, 0, none⟩ = some (.int .i64 kx) ∧ wx.cell? ⟨gn, 1, none⟩ = some (.int .i64 vx) ∧ wx.cell? ⟨gn, 2, none⟩ = some (.int .u32 (lx : Int)) ∧ wx.cell? ⟨gn, 3, none⟩ = some (.int .u32 (rx : Int))) ∧ SlotsAt wx a N A.sl ∧ Below w.heap.size w wx) := fun wx hb => by
    have hb' : Below w1.heap.size w1 wx := HB4.out.trans (hb.mono HB4.out.size)
    have hq := (hb'.block g HG1.out).trans HX1.out
    have hn := (hb.block gn HG4.out).trans HN4.out
    subst hkx hvx hlx hrx
    exact ⟨two_cells hq, ⟨by rw [cell_of_row _ _ _ _ _ _ hn]; rfl, by rw [cell_of_row _ _ _ _ _ _ hn]; rfl, by rw [cell_of_row _ _ _ _ _ _ hn]; rfl, by rw [cell_of_row _ _ _ _ _ _ hn]; rfl⟩, HS1.out.below hb', HB1.out.trans (hb'.mono HB1.out.size)⟩
  rw [hlx] at HL
  rw [hrx] at HR
  have HLE : Hid ((l.ents A.nd).length ≤ 1000000 ∧ (r.ents A.nd).length ≤ 1000000) := ⟨by rw [Tr.ents_len]; exact HSZ.out.1, by rw [Tr.ents_len]; exact HSZ.out.2⟩
  clear hkx hvx hlx hrx
  obtain ⟨L1, hL1⟩ : ∃ L, l.ents A.nd = L := ⟨_, rfl⟩
  obtain ⟨L2, hL2⟩ : ∃ L, r.ents A.nd = L := ⟨_, rfl⟩
  rw [hL1, hL2] at HENT HLE
  have HL1 := Lib.hid hL1
  have HL2 := Lib.hid hL2
  clear hL1 hL2
  go_cut [6] (fun s6 wx => ∃ v, s6 = v ∧ ESt w4.heap.size w4 (L1 ++ [⟨kx, vx⟩]) v wx)
  case first =>
    have hS0 : Below w4.heap.size w4 w4.drew := (Below.refl _ _).drew
    obtain ⟨⟨q0, q1⟩, ⟨n0, n1, n2, n3⟩, -, -⟩ := HC.out _ hS0
    have HCALL : Hid (∀ wx, Below w4.heap.size w4 wx → Calls Try.prog 44 #[.agg #[.slice a N c, .slice b m d], .int .u32 (lx : Int)] wx (fun e wL => ∃ xa xc, e = .returned (.slice xa L1.length xc) ∧ ESt w4.heap.size w4 L1 (.slice xa L1.length xc) wL ∧ Below wx.heap.size wx wL)) := fun wx hww => by
      refine (HL.out _ a b N c m d HN.out (HC.out _ hww).2.2.1 HSZ.out.1).mono ?_
      rintro e wL ⟨xa, xc, rfl, hrowL, hbL⟩
      rw [HL1.out] at hrowL ⊢
      exact ⟨xa, xc, rfl, ⟨⟨xa, xc, rfl⟩, row_mono hrowL hww.size, hww.trans (hbL.mono hww.size)⟩, hbL⟩
    have HKEEP : Hid (∀ w', Below w4.heap.size w4 w' → Below w4.heap.size w4 w' ∧ w'.cell? ⟨g, 0, none⟩ = some (.slice a N c) ∧ w'.cell? ⟨g, 1, none⟩ = some (.slice b m d) ∧ w'.cell? ⟨gn, 0, none⟩ = some (.int .i64 kx) ∧ w'.cell? ⟨gn, 1, none⟩ = some (.int .i64 vx) ∧ w'.cell? ⟨gn, 2, none⟩ = some (.int .u32 (lx : Int)) ∧ w'.cell? ⟨gn, 3, none⟩ = some (.int .u32 (rx : Int))) := fun w' hb => by
      have hz := HC.out w' hb
      exact ⟨hb, hz.1.1, hz.1.2, hz.2.1.1, hz.2.1.2.1, hz.2.1.2.2.1, hz.2.1.2.2.2⟩
    go_region_held3 (fun w' => Below w4.heap.size w4 w' ∧ w'.cell? ⟨g, 0, none⟩ = some (.slice a N c) ∧ w'.cell? ⟨g, 1, none⟩ = some (.slice b m d) ∧ w'.cell? ⟨gn, 0, none⟩ = some (.int .i64 kx) ∧ w'.cell? ⟨gn, 1, none⟩ = some (.int .i64 vx) ∧ w'.cell? ⟨gn, 2, none⟩ = some (.int .u32 (lx : Int)) ∧ w'.cell? ⟨gn, 3, none⟩ = some (.int .u32 (rx : Int))) ((refine HKEEP.out _ ?_; repeat (first | with_reducible assumption | with_reducible exact Below.refl _ _ | with_reducible refine Below.drew ?_ | with_reducible refine below_alT ?_ _))) (first
      | (go_at_call 44; refine (HCALL.out _ (by repeat (first | with_reducible assumption | with_reducible exact Below.refl _ _ | with_reducible refine Below.drew ?_ | with_reducible refine below_alT ?_ _))).mono ?_; rintro e wL ⟨xa, xc, rfl, hEL, hbL⟩; have hSL := hEL.below; obtain ⟨⟨q0, q1⟩, ⟨n0, n1, n2, n3⟩, -, -⟩ := HC.out _ hSL)
      | (refine step_append_en rfl (.tmp 15) (.tmp 21) rfl (hEL.from (below_newL _ _) rfl) rfl rfl ⟨kx, vx⟩ _ rfl (cell_newE _ _ _) (Nat.le_trans HLE.out.1 (by decide)) ?_; intro v5 w5 hc5 hg5; have hS5 := hc5.below; obtain ⟨⟨q0, q1⟩, ⟨n0, n1, n2, n3⟩, -, -⟩ := HC.out _ hS5)
      | (refine step_append_en rfl (.tmp 15) (.tmp 21) rfl hEL rfl rfl ⟨kx, vx⟩ _ rfl (fun j u hu => (hbL.cell (by simp [Addr.add]; split <;> exact Nat.lt_succ_self _)).trans (cell_newE _ ⟨kx, vx⟩ _ j u hu)) (Nat.le_trans HLE.out.1 (by decide)) ?_; intro v5 w5 hc5 hg5; have hS5 := hc5.below; obtain ⟨⟨q0, q1⟩, ⟨n0, n1, n2, n3⟩, -, -⟩ := HC.out _ hS5))
    all_goals (go_wp2_with fail; go_meet; exact ⟨_, rfl, hc5⟩)
  case' rest =>
    rename World => w5
    obtain ⟨v5, h6, hc5⟩ := hcut
    subst h6
    obtain ⟨xa, xc, hv5⟩ := hc5.val
    have HE5 := Lib.hid hc5
    obtain ⟨⟨q0, q1⟩, ⟨n0, n1, n2, n3⟩, hsl5, -⟩ := HC.out w5 hc5.below
    have HSL5 := Lib.hid hsl5
    have HLB : Hid ((L1 ++ [(⟨kx, vx⟩ : En)]).length + L2.length ≤ 100000000) := by
      have h := HLE.out
      show _ ≤ _
      rw [List.length_append]
      simp only [List.length_cons, List.length_nil]
      omega
    obtain ⟨n1', hn1⟩ : ∃ k, (L1 ++ [(⟨kx, vx⟩ : En)]).length = k := ⟨_, rfl⟩
    obtain ⟨n2', hn2⟩ : ∃ k, L2.length = k := ⟨_, rfl⟩
    rw [hn1] at hv5
    have HN2 := Lib.hid hn2
    rw [hv5] at HE5
    subst hv5
    clear hc5 hsl5 hn1 hn2
    go_wp2_with fail
    refine (HR.out w5 a b N c m d HN.out HSL5.out HSZ.out.2).mono ?_
    rintro e w6 ⟨ya, yc, rfl, hrow6, hb6⟩
    rw [HL2.out, HN2.out] at hrow6 ⊢
    have HE6 := Lib.hid (HE5.out.from hb6 rfl)
    have HRW6 := Lib.hid hrow6
    clear hrow6 hb6 q0 q1 n0 n1 n2 n3
    go_wp2_with (at_builtin; refine wpList_append_rowE rfl (.tmp 23) (.tmp 27) rfl HE6.out rfl rfl ya yc n2' HN2.out rfl HRW6.out (by have := HLB.out; have := HN2.out; omega) ?_; intro v7 w7 hc7)
    go_ret
    obtain ⟨za, zc, rfl⟩ := hc7.val
    have hfin : L1 ++ [(⟨kx, vx⟩ : En)] ++ L2 = (Tr.node i l r).ents A.nd := by rw [HENT.out]; simp
    have hbw := (HC.out w7 hc7.below).2.2.2
    rw [← hfin]
    exact ⟨za, zc, rfl, row_mono hc7.row ((HC.out w4 (Below.refl _ _)).2.2.2).size, hbw⟩
set_option maxHeartbeats 4000000 in
set_option maxRecDepth 100000 in
theorem listT_nil (A : Ar) : ListSpec A 0 .nil := by
  intro w a b N c m d hN hS hsz
  have hb1 := below_newL w (Obj.cells #[.slice a N c, .slice b m d] 33)
  have HB1 := Lib.hid hb1
  clear hb1
  go_enter Try.func44, Try.ntmps44
  go_wp2_with fail
  go_ret
  exact ⟨none, 0, rfl, World.ownsRow_nil _ _ _ _, HB1.out⟩
/-- List of the reference reads a subtree in order. -/
theorem listT_any {A : Ar} {i : Nat} {t : Tr} (hok : A.σ.Ok) (hs : Sub A i t) : ListSpec A i t := by
  induction hs with
  | nil => exact listT_nil A
  | node i l r h0 h1 _ _ ihl ihr => exact listT_node hok h0 h1 ihl ihr
end Go.Proofs.Ytnimbgcploohiaa
set_option linter.unusedVariables false
namespace Go.Proofs.Ytnimbgcploohiaa
open Go.RowKit
theorem fInfo : (Try.prog.info? 128).map (fun i => (i.zero, i.size, i.bytes)) = some (some (.agg #[.int .i64 0, .int .u32 0, .int .i64 0, .int .i64 0]), 4, 32) := by kernel_rfl
theorem i64_is' (n : Int) : IntKind.i64.wrap n = wrap64 n := by rw [IntKind.wrap_i64]; unfold wrap64; rfl
structure CSt (Z : Nat) (w2 : World) (l : List Fd) (v : Value) (wr : World) : Prop where
  val : ∃ a c, v = .slice a l.length c
  row : wr.ownsRow Z 128 4 v l.length (fdsV l)
  below : Below Z w2 wr
section
variable {Z : Nat} {w2 wr w' : World} {l : List Fd} {v v' : Value}
theorem CSt.from (h : CSt Z w2 l v wr) (hb : Below wr.heap.size wr w') (hZ : w2.heap.size = Z) : CSt Z w2 l v w' :=
  ⟨h.val, row_below h.row hb, h.below.trans (hb.mono (by have := h.below.size; omega))⟩
theorem CSt.start (w2 : World) (hZ : w2.heap.size = Z) : CSt Z w2 [] (.slice none 0 0) w2 := ⟨⟨none, 0, rfl⟩, World.ownsRow_nil _ _ _ _, Below.refl _ _⟩
theorem cell_new4 (w : World) (x y z u : Value) (t : TypeId) : ∀ j v, [x, y, z, u][j]? = some v → (w.alloc (.cells #[x, y, z, u] t)).cell? ((⟨w.heap.size, 0, none⟩ : Addr).add j) = some v := by
  intro j v hu
  match j, hu with
  | 0, hu => simp at hu; subst hu; simp [Addr.add]
  | 1, hu => simp at hu; subst hu; simp [Addr.add]
  | 2, hu => simp at hu; subst hu; simp [Addr.add]
  | 3, hu => simp at hu; subst hu; simp [Addr.add]
theorem fd_one (f : Fd) : ∀ u ∈ fdV f, u.oneCell' = true := by
  intro u hu
  simp [fdV] at hu
  rcases hu with rfl | rfl | rfl | rfl <;> rfl
/-- blocks of other types stay -/
def Others (w w' : World) : Prop := ∀ (k : Nat) (cur : Array Value) (t : TypeId), w.heap[k]? = some (.cells cur t (0, 0)) → t ≠ 128 → w'.heap[k]? = some (.cells cur t (0, 0))
theorem others_grown {n : Nat} {xs : List Value} (h : wr.ownsRow Z 128 4 v n xs) (hg : wr.grownBy w' v.ownBlock) : Others wr w' := by
  intro k cur t hk ht
  rw [hg.block k (Array.getElem?_eq_some_iff.1 hk).1 fun e => ?_]
  · exact hk
  rcases h.2 with ⟨rfl, _⟩ | ⟨g2, cap2, cur2, rfl, _, hc2, _⟩
  · simp [Value.ownBlock] at e
  · simp only [Value.ownBlock, Option.some.injEq] at e
    subst e
    rw [hk] at hc2
    simp at hc2
    exact ht hc2.2
theorem wpList_append_fd {ops : Array Oper} {rest : List Oper} {o : Oper} {a : Act} {w : World} {Q : Exit → Act → World → Prop} (hgd : o.guard = none) (s x : Operand)
    (ho : o.op = .call { callee := .builtin .append, args := #[s, x], argTypes := #[112, 112] })
    (hc : CSt Z w2 l v w) (hZ : w2.heap.size = Z) (hs : a.eval s = v) (f : Fd) (g : Nat) (hx : a.eval x = .slice (some ⟨g, 0, none⟩) 1 1)
    (hn : ∀ j u, (fdV f)[j]? = some u → w.cell? ((⟨g, 0, none⟩ : Addr).add j) = some u) (hl : l.length ≤ 100000000)
    (h : ∀ v' w', CSt Z w2 (l ++ [f]) v' w' → Others w w' → wpList Try.prog ops Q rest (a.put o.dst v') w') : wpList Try.prog ops Q (o :: rest) a w := by
  obtain ⟨i, ji, jz0, jz1, jz2⟩ := info_parts fInfo
  refine wpList_append_own _ hgd s x 112 ho Z 128 i (.agg #[.int .i64 0, .int .u32 0, .int .i64 0, .int .i64 0]) 4 32 Try.underlying112 ji jz0 jz1 jz2 rfl (by decide) v l.length (fdsV l) hs hc.row ⟨g, 0, none⟩ 1 1 (fdV f) hx rfl hn (fd_one f) (by unfold maxLen; omega) (by omega) (by have := hc.below.size; omega) ?_
  intro v' w' ho' hg _
  have h1 : CSt Z w2 (l ++ [f]) v' w' := by
    obtain ⟨a', c', hv⟩ := row_val ho'
    refine ⟨⟨a', c', by rw [List.length_append]; exact hv⟩, ?_, hc.below.grown hg (by have := hc.below.size; omega) (row_from hc.row)⟩
    rw [List.length_append, fdsV_snoc]
    exact ho'
  exact h v' w' h1 (others_grown hc.row hg)
/-- the cells of a block that holds a slot's description -/
theorem sl_cells {w : World} {g : Nat} {s : Sl} {t : TypeId} (h : w.heap[g]? = some (.cells (slV s).toArray t (0, 0))) :
    w.cell? ⟨g, 0, none⟩ = some (.bool s.on) ∧ w.cell? ⟨g, 1, none⟩ = some (.int .i64 s.cnt) ∧ w.cell? ⟨g, 2, none⟩ = some (.int .u32 s.gen) ∧
    w.cell? ⟨g, 3, none⟩ = some (.int .i64 s.nd.key) ∧ w.cell? ⟨g, 4, none⟩ = some (.int .i64 s.nd.val) ∧ w.cell? ⟨g, 5, none⟩ = some (.int .u32 (s.nd.left : Int)) ∧
    w.cell? ⟨g, 6, none⟩ = some (.int .u32 (s.nd.right : Int)) ∧ w.cell? ⟨g, 7, none⟩ = some (.int .i64 s.nd.size) ∧ w.cell? ⟨g, 8, none⟩ = some (.int .i64 s.nd.sum) ∧
    w.cell? ⟨g, 9, none⟩ = some (.int .i64 s.nd.mn) ∧ w.cell? ⟨g, 10, none⟩ = some (.int .i64 s.nd.mx) := by
  refine ⟨?_, ?_, ?_, ?_, ?_, ?_, ?_, ?_, ?_, ?_, ?_⟩ <;> (rw [cell_of_row _ _ _ _ _ _ h]; rfl)
/-- the row of findings beside the description of the slot at hand -/
structure RSt (Z : Nat) (w2 : World) (l : List Fd) (v : Value) (sb : Nat) (s : Sl) (wr : World) : Prop where
  st : CSt Z w2 l v wr
  box : wr.heap[sb]? = some (.cells (slV s).toArray 81 (0, 0))
variable {sb : Nat} {s : Sl}
theorem RSt.from (h : RSt Z w2 l v sb s wr) (hb : Below wr.heap.size wr w') (hZ : w2.heap.size = Z) : RSt Z w2 l v sb s w' :=
  ⟨h.st.from hb hZ, (hb.block _ (Array.getElem?_eq_some_iff.1 h.box).1).trans h.box⟩
theorem RSt.push {w3 : World} {l' : List Fd} (h : RSt Z w2 l v sb s wr) (hb : Below wr.heap.size wr w') (hc : CSt Z w2 l' v' w3) (ho : Others w' w3) : RSt Z w2 l' v' sb s w3 :=
  ⟨hc, ho _ _ _ ((hb.block _ (Array.getElem?_eq_some_iff.1 h.box).1).trans h.box) (by decide)⟩
theorem below_new (w : World) (o : Obj) : Below w.heap.size w (w.alloc o) := (Below.refl _ _).alloc (Nat.le_refl _) _
theorem below_chain {a b c : World} (h : Below a.heap.size a b) (h' : Below b.heap.size b c) : Below a.heap.size a c := h.trans (h'.mono h.size)
theorem opt_yes {b : Bool} {f : Fd} (h : b = true) : opt b f = [f] := by unfold opt; rw [if_pos h]
theorem opt_no {b : Bool} {f : Fd} (h : b = false) : opt b f = [] := by unfold opt; rw [h]; rfl
end
end Go.Proofs.Ytnimbgcploohiaa
