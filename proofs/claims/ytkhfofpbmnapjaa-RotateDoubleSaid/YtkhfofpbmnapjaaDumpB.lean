/- A dump in memory: its slots read as plain data. The reference's kids and Allocated. How often each slot occurs in a list: the reference's counts. -/
import Derived.Test.YtkhfofpbmnapjaaTrees
import Derived.Test.YtkhfofpbmnapjaaBase
import Derived.Test.YtkhfofpbmnapjaaOwn
import Derived.Deep.QuietTactic
import Derived.BigQuiet
import Derived.BigGuardPart
set_option linter.unusedVariables false
namespace Go.Proofs.Ytkhfofpbmnapjaa
open Go.RowKit

/-- a slot's description -/
structure Sl where
  on : Bool
  cnt : Int
  gen : Int
  nd : Nd
def slV (s : Sl) : List Value := [.bool s.on, .int .i64 s.cnt, .int .u32 s.gen, .int .i64 s.nd.key, .int .i64 s.nd.val, .int .u32 (s.nd.left : Int), .int .u32 (s.nd.right : Int), .int .i64 s.nd.size, .int .i64 s.nd.sum, .int .i64 s.nd.mn, .int .i64 s.nd.mx]
/-- slot i + 1 of the n slots reads as S i -/
structure SlotsAt (w : World) (a : Option Addr) (n : Nat) (S : Nat → Sl) : Prop where
  cell : ∀ i, i < n → ∃ b off, a = some ⟨b, off, none⟩ ∧ b < w.heap.size ∧ ∀ j v, (slV (S i))[j]? = some v → w.cell? ⟨b, off + i * 11 + j, none⟩ = some v
  kid : ∀ i, i < n → (S i).nd.left < 4294967296 ∧ (S i).nd.right < 4294967296
theorem SlotsAt.below {w w' : World} {a : Option Addr} {n : Nat} {S : Nat → Sl} (h : SlotsAt w a n S) (hb : Below w.heap.size w w') : SlotsAt w' a n S := by
  refine ⟨fun i hi => ?_, h.kid⟩
  obtain ⟨b, off, ha, hlt, hc⟩ := h.cell i hi
  exact ⟨b, off, ha, Nat.lt_of_lt_of_le hlt hb.size, fun j v hv => by rw [← hc j v hv]; exact hb.cell (p := ⟨b, off + i * 11 + j, none⟩) hlt⟩
theorem kids_any (o : Bool) (c g k v s u x y : Int) (l r : Int) (w : World) :
    Calls Try.prog 62 #[.agg #[.bool o, .int .i64 c, .int .u32 g, .int .i64 k, .int .i64 v, .int .u32 l, .int .u32 r, .int .i64 s, .int .i64 u, .int .i64 x, .int .i64 y]] w
      (Calm w (.agg #[.int .u32 l, .int .u32 r])) := by
  have HU : Hid _ := Lib.hid Try.underlying114
  have hin : (Try.prog.info? 114).map (·.size) = some 2 := by kernel_rfl
  have HI := Lib.hid hin
  clear hin
  go_enter Try.func62, Try.ntmps62
  go_wp2
  exact bodyPost_ret (v := .agg #[.int .u32 l, .int .u32 r]) (results_cell_row rfl _ _ (w.heap.size + 1) 114 _ (0, 0) _ rfl (heap_alloc2_new w _ _) HU.out rfl HI.out) rfl ⟨rfl, ((Below.refl _ _).alloc (Nat.le_refl _) _).alloc (by simp) _⟩
set_option maxHeartbeats 1000000 in
set_option maxRecDepth 100000 in
theorem dallocated_any {w : World} {a b : Option Addr} {n c m d i : Nat} {S : Nat → Sl} (h : SlotsAt w a n S) (hn : n ≤ 65536) (hi : i < 4294967296) :
    Calls Try.prog 34 #[.agg #[.slice a n c, .slice b m d], .int .u32 (i : Int)] w (Calm w (.bool (decide (1 ≤ i ∧ i ≤ n ∧ (S (i - 1)).on = true)))) := by
  have hb1 : Below w.heap.size w (w.alloc (Obj.cells #[Value.slice a n c, Value.slice b m d] 32)) := (Below.refl _ _).alloc (Nat.le_refl _) _
  have HB := Lib.hid hb1
  clear hb1
  have hni : (n : Int) ≤ 65536 := by omega
  by_cases h0 : 1 ≤ i ∧ i ≤ n
  · obtain ⟨j, rfl⟩ : ∃ j, i = j + 1 := ⟨i - 1, by omega⟩
    obtain ⟨b', off, rfl, hlt, hc⟩ := h.cell j (by omega)
    have hc0 : w.cell? ⟨b', off + j * 11, none⟩ = _ := hc 0 _ rfl
    have hjn : (j : Int) < (n : Int) := by omega
    have hjn2 : (j : Int) + 1 ≤ (n : Int) := by omega
    have hj1 : (1 : Int) ≤ (j : Int) + 1 := by omega
    rw [show decide (1 ≤ j + 1 ∧ j + 1 ≤ n ∧ (S (j + 1 - 1)).on = true) = (S j).on by
      have : 1 ≤ j + 1 ∧ j + 1 ≤ n := h0
      simp [this]]
    generalize (S j).on = o at *
    clear h hc h0 hi
    go_enter Try.func34, Try.ntmps34
    go_wp2
    go_ret
    exact ⟨rfl, HB.out⟩
  · rw [show decide (1 ≤ i ∧ i ≤ n ∧ (S (i - 1)).on = true) = false by simp; omega]
    by_cases h1 : i = 0
    · subst h1
      clear h h0
      go_enter Try.func34, Try.ntmps34
      go_wp2
      go_ret
      exact ⟨rfl, HB.out⟩
    · have hin : ¬ (i : Int) ≤ (n : Int) := by omega
      have hi1 : (1 : Int) ≤ (i : Int) := by omega
      clear h h0
      go_enter Try.func34, Try.ntmps34
      go_wp2
      go_ret
      exact ⟨rfl, HB.out⟩
end Go.Proofs.Ytkhfofpbmnapjaa
set_option linter.unusedVariables false
namespace Go.Proofs.Ytkhfofpbmnapjaa
open Go.RowKit

theorem i64sInfo : (Try.prog.info? 3).map (fun i => (i.zero, i.size, i.bytes)) = some (some (.int .i64 0), 1, 8) := by kernel_rfl
/-- a row of numbers -/
def natR (n : Nat) (f : Nat → Nat) : List Value := (List.range n).map fun i => .int .i64 ((f i : Nat) : Int)
theorem natR_at {n i : Nat} (f : Nat → Nat) (h : i < n) : (natR n f)[i]? = some (.int .i64 ((f i : Nat) : Int)) := by simp [natR, h]
theorem natR_zero (n : Nat) : (madeCells (Value.int .i64 0).cells (n * 1)).toList = natR n fun _ => 0 := by
  rw [Nat.mul_one]
  refine (toList_madeCells_one (.int .i64 0) n).trans ?_
  unfold natR
  simp [List.map_const']
theorem natR_set {n i : Nat} (f : Nat → Nat) (x : Int) (v : Nat) (hx : x = (v : Int)) : (natR n f).set i (.int .i64 x) = natR n fun j => if j = i then v else f j := by
  subst hx
  apply List.ext_getElem?
  intro j
  unfold natR
  rw [List.getElem?_set]
  by_cases hj : j < n
  · by_cases e : i = j
    · subst e; simp [hj]
    · have e2 : ¬ j = i := fun h => e h.symm
      simp [hj, e, e2]
  · by_cases e : i = j
    · subst e; simp [hj]
    · simp [hj, e]
/-- a slice of slot numbers reads as l -/
structure U32At (w : World) (a : Option Addr) (l : List Nat) : Prop where
  cell : ∀ j, j < l.length → ∃ b off, a = some ⟨b, off, none⟩ ∧ b < w.heap.size ∧ w.cell? ⟨b, off + j, none⟩ = some (.int .u32 ((l.getD j 0 : Nat) : Int))
  lt : ∀ x ∈ l, x < 4294967296
theorem U32At.below {w w' : World} {a : Option Addr} {l : List Nat} (h : U32At w a l) (hb : Below w.heap.size w w') : U32At w' a l := by
  refine ⟨fun j hj => ?_, h.lt⟩
  obtain ⟨b, off, ha, hlt, hc⟩ := h.cell j hj
  exact ⟨b, off, ha, Nat.lt_of_lt_of_le hlt hb.size, by rw [← hc]; exact hb.cell (p := ⟨b, off + j, none⟩) hlt⟩
theorem getD_mem {l : List Nat} {k : Nat} (h : k < l.length) : l.getD k 0 ∈ l := by
  rw [List.getD_eq_getElem?_getD, List.getElem?_eq_getElem h]; exact List.getElem_mem _
theorem count_step {l : List Nat} {k : Nat} (h : k < l.length) (x : Nat) : (l.take (k + 1)).count x = (l.take k).count x + if l.getD k 0 = x then 1 else 0 := by
  rw [List.take_succ_eq_append_getElem h, List.count_append, List.getD_eq_getElem?_getD, List.getElem?_eq_getElem h]
  by_cases e : l[k] = x
  · simp [e]
  · simp [e]
def MadeRow (w : World) (n : Nat) (f : Nat → Nat) (e : Ending) (w' : World) : Prop :=
  ∃ g, e = .returned (.slice (some ⟨g, 0, none⟩) n n) ∧ w'.ownsRow w.heap.size 3 1 (.slice (some ⟨g, 0, none⟩) n n) n (natR n f) ∧ Below w.heap.size w w'
set_option maxHeartbeats 1000000 in
set_option maxRecDepth 100000 in
theorem counts_any {w : World} {a : Option Addr} {c n : Nat} (l : List Nat) (h : U32At w a l) (hn : n ≤ 65536) (hl : l.length ≤ 1000000) :
    Calls Try.prog 61 #[.slice a l.length c, .int .i64 (n : Int)] w (MadeRow w n fun i => l.count (i + 1)) := by
  obtain ⟨i0, hi, hz0, hz1, hz2⟩ := info_parts i64sInfo
  have hni : (n : Int) ≤ 65536 := by omega
  have hni0 : (0 : Int) ≤ (n : Int) := by omega
  have HH := Lib.hid h
  obtain ⟨L, hL⟩ : ∃ L, l.length = L := ⟨_, rfl⟩
  have HL := Lib.hid hL
  rw [hL] at hl ⊢
  have hLi : (L : Int) ≤ 1000000 := by omega
  clear h hL
  go_enter Try.func61, Try.ntmps61
  go_wp2_with (refine wpList_make_full _ rfl (.tmp 7) (.tmp 7) 107 rfl w.heap.size 3 i0 (.int .i64 0) 1 Try.underlying107 hi hz0 hz1 .i64 .i64 (n : Int) (n : Int) n rfl rfl rfl rfl (by rw [hz2]; omega) (by unfold maxLen; omega) (Nat.le_refl _) ?_; intro w2 ho2 hg2)
  have hb2 : Below w.heap.size w w2 := (Below.refl _ _).grown hg2 (Nat.le_refl _) (fun k hk => by cases hk)
  rw [natR_zero] at ho2
  clear hg2
  go_loopw [6] (fun i wr => ∃ k : Nat, k ≤ L ∧ i = .int .i64 (k : Int) ∧ wr.ownsRow w.heap.size 3 1 (.slice (some ⟨w.heap.size, 0, none⟩) n n) n (natR n fun i => (l.take k).count (i + 1)) ∧ Below w.heap.size w wr) (fun i _ => L - (intOf i).toNat)
  case atStart => exact ⟨0, Nat.zero_le _, rfl, by simpa using ho2, hb2⟩
  case round =>
    clear ho2 hb2
    obtain ⟨k, hk, rfl, ho, hb⟩ := hrel
    have hs := hb.size
    by_cases hlt : k < L
    · have hkl : k < l.length := by rw [HL.out]; exact hlt
      have hki : (k : Int) < (L : Int) := by omega
      obtain ⟨b, off, rfl, hbl, hcell⟩ := (HH.out.below hb).cell k hkl
      have hx2 : l.getD k 0 < 4294967296 := HH.out.lt _ (getD_mem hkl)
      have hcs := fun x => count_step hkl x
      have HC := Lib.hid hcs
      clear hcs hkl
      generalize hX : l.getD k 0 = X at hcell hx2
      have HX := Lib.hid hX
      clear hX
      have hX4 : (X : Int) < 4294967296 := by omega
      have hkn : (0 : Int) ≤ (k : Int) := by omega
      by_cases hr : 1 ≤ X ∧ X ≤ n
      · obtain ⟨j, rfl⟩ : ∃ j, X = j + 1 := ⟨X - 1, by omega⟩
        have hjn : j < n := by omega
        have hji : (j : Int) < (n : Int) := by omega
        have hj1 : (1 : Int) ≤ (j : Int) + 1 := by omega
        have hjn2 : (j : Int) + 1 ≤ (n : Int) := by omega
        have hxw : ((j + 1 : Nat) : Int) = (j : Int) + 1 := by omega
        have hcj := (ho.cellAt j (by omega)).trans (natR_at _ hjn)
        have hfj := ho.frozenAt j
        have hct : (l.take k).count (j + 1) ≤ k := Nat.le_trans List.count_le_length (by simp; omega)
        have hst := (ho.stored j (.int .i64 (((l.take k).count (j + 1) : Nat) + 1 : Int))).1
        have hbs : Below w.heap.size w (wr.setCell ⟨w.heap.size, j, none⟩ (.int .i64 (((l.take k).count (j + 1) : Nat) + 1 : Int))) := hb.setCell (Nat.le_refl _) _
        have HS := Lib.hid hst
        have HB := Lib.hid hbs
        generalize hT : (l.take k).count (j + 1) = T at hcj hct HS HB
        have HT := Lib.hid hT
        have hTi : (T : Int) ≤ 1000000 := by omega
        have hTi0 : (0 : Int) ≤ (T : Int) := by omega
        clear hst hbs hb hT hr hct ho
        go_wp2
        refine ⟨⟨k + 1, by omega, by go_num, ?_, HB.out⟩, by simp [intOf]; omega⟩
        have h9 := HS.out
        rw [natR_set (i := j) _ _ (T + 1) (by omega)] at h9
        refine (congrArg (fun xs => World.ownsRow _ _ _ _ _ _ xs) (congrArg (natR n) (funext fun i => ?_))).mp h9
        rw [HC.out, HX.out]
        by_cases e : i = j
        · subst e; rw [if_pos rfl, if_pos rfl, HT.out]
        · rw [if_neg e, if_neg (by omega)]; rfl
      · have hsame : (natR n fun i => (l.take k).count (i + 1)) = natR n fun i => (l.take (k + 1)).count (i + 1) := by
          unfold natR
          refine List.map_congr_left fun i hi => ?_
          rw [List.mem_range] at hi
          show Value.int .i64 (((l.take k).count (i + 1) : Nat) : Int) = Value.int .i64 (((l.take (k + 1)).count (i + 1) : Nat) : Int)
          rw [HC.out, HX.out, if_neg (by omega)]
          rfl
        have HSM := Lib.hid hsame
        have HO := Lib.hid ho
        clear ho hsame
        by_cases h0 : X = 0
        · subst h0
          clear hr
          go_wp2
          exact ⟨⟨k + 1, by omega, by go_num, by rw [← HSM.out]; exact HO.out, hb⟩, by simp [intOf]; omega⟩
        · have h1 : (1 : Int) ≤ (X : Int) := by omega
          have h2 : ¬ (X : Int) ≤ (n : Int) := by omega
          clear hr h0
          go_wp2
          exact ⟨⟨k + 1, by omega, by go_num, by rw [← HSM.out]; exact HO.out, hb⟩, by simp [intOf]; omega⟩
    · obtain rfl : k = L := by omega
      rw [List.take_of_length_le (by rw [HL.out]; exact Nat.le_refl _)] at ho
      go_wp2
      go_ret
      exact ⟨_, rfl, ho, hb⟩
end Go.Proofs.Ytkhfofpbmnapjaa
