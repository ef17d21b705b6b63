/- Of the proofs of SetopsUnion, SetopsIntersect, SetopsSubtract: DumpE, ArOkA, Ens, RefNear, RefSub, RefOut, Near. -/
import Derived.Test.YtfihklpofmcfgaaGreatA163
import Derived.Deep.LoopGhost
import Derived.Maps.AppendAt
import Derived.Deep.DeepCutAuto
import Derived.Deep.QuietTactic
import Derived.Laws.OwnMore
import Derived.Laws.AppendOwnNone
import Derived.Deep.RegionHeldLaw
set_option linter.unusedVariables false
namespace Go.Proofs.YtfihklpofmcfgaaGreat
open Go.RowKit
theorem bInfo : (Tryz.prog.info? 4).map (fun i => (i.zero, i.size, i.bytes)) = some (some (.bool false), 1, 1) := by kernel_rfl
theorem uInfo : (Tryz.prog.info? 26).map (fun i => (i.zero, i.size, i.bytes)) = some (some (.int .u32 0), 1, 4) := by kernel_rfl
def boolR (n : Nat) (B : Nat → Bool) : List Value := (List.range n).map fun i => .bool (B i)
theorem boolR_at {n i : Nat} (B : Nat → Bool) (h : i < n) : (boolR n B)[i]? = some (.bool (B i)) := by simp [boolR, h]
theorem boolR_zero (n : Nat) : (madeCells (Value.bool false).cells (n * 1)).toList = boolR n fun _ => false := by
  rw [Nat.mul_one]
  refine (toList_madeCells_one (.bool false) n).trans ?_
  unfold boolR
  simp [List.map_const']
theorem boolR_set {n : Nat} (B : Nat → Bool) (i : Nat) : (boolR n B).set i (.bool true) = boolR n (setB B i) := by
  apply List.ext_getElem?
  intro j
  unfold boolR setB
  rw [List.getElem?_set]
  by_cases hj : j < n
  · by_cases e : i = j
    · subst e; simp [hj]
    · have e2 : ¬ j = i := fun h => e h.symm
      simp [hj, e, e2]
  · by_cases e : i = j
    · subst e; simp [hj]
    · simp [hj, e]
theorem u32s_len (l : List Nat) : (u32s l).length = l.length := by simp [u32s]
theorem u32s_ones (l : List Nat) : ∀ u ∈ u32s l, u.oneCell' = true := by
  intro u hu
  unfold u32s at hu
  obtain ⟨i, _, rfl⟩ := List.mem_map.1 hu
  rfl
theorem u32s_app (l m : List Nat) : u32s (l ++ m) = u32s l ++ u32s m := by simp [u32s]
theorem u32s_last (l : List Nat) (x : Nat) : (u32s (l ++ [x]))[l.length]? = some (.int .u32 (x : Int)) := by simp [u32s]
theorem row_cut {w : World} {B n m c : Nat} {e : TypeId} {g : Nat} {xs : List Value} (h : w.ownsRow B e 1 (.slice (some ⟨g, 0, none⟩) n c) n xs) (hm : m ≤ n) : w.ownsRow B e 1 (.slice (some ⟨g, 0, none⟩) m c) m (xs.take m) := by
  have hl := h.1
  rcases h.2 with ⟨hv, _⟩ | ⟨g2, cap, cur, hv, hB, hc, hn, hcm, hs, ht⟩
  · simp at hv
  · simp only [Value.slice.injEq, Option.some.injEq, Addr.mk.injEq] at hv
    obtain ⟨⟨rfl, _⟩, _, rfl⟩ := hv
    refine ⟨by simp; omega, .inr ⟨g, c, cur, rfl, hB, hc, by omega, hcm, hs, ?_⟩⟩
    rw [← ht, List.take_take]
    congr 1
    omega
theorem row_caps {w : World} {B n c s : Nat} {e : TypeId} {a : Option Addr} {xs : List Value} (h : w.ownsRow B e s (.slice a n c) n xs) : n ≤ c ∧ c ≤ maxLen := by
  rcases h.2 with ⟨hv, hn⟩ | ⟨g2, cap, cur, hv, hB, hc, hn, hcm, hs, ht⟩
  · simp only [Value.slice.injEq] at hv
    omega
  · simp only [Value.slice.injEq] at hv
    omega
theorem cell_new2 (w : World) (x y : Value) (t : TypeId) : ∀ j u, [x, y][j]? = some u → (w.alloc (.cells #[x, y] t)).cell? ((⟨w.heap.size, 0, none⟩ : Addr).add j) = some u := by
  intro j u hu
  match j, hu with
  | 0, hu => simp at hu; subst hu; simp [Addr.add]
  | 1, hu => simp at hu; subst hu; simp [Addr.add]
theorem one_cell2 (k : IntKind) (x y : Int) : ∀ u ∈ [Value.int k x, Value.int k y], u.oneCell' = true := by
  intro u hu; simp at hu; rcases hu with rfl | rfl <;> rfl
/-- append of a slice that reads as l to a row of the call's own -/
theorem wpList_append_at {P : Program} {w : World} {ops : Array Oper} {rest : List Oper} {o : Oper} {a : Act} {Q : Exit → Act → World → Prop} (hgd : o.guard = none) (s x : Operand) (t : TypeId)
    (ho : o.op = .call { callee := .builtin .append, args := #[s, x], argTypes := #[t, t] })
    (base : Nat) (e : TypeId) (i : TypeInfo) (z : Value) (bytes : Nat) (ht : P.underlying t = some (.slice e)) (hi : P.info? e = some i) (hz : i.zero = some z)
    (hsize : i.size = 1) (hby : i.bytes = bytes) (hzs : z.cells.size = 1)
    (v : Value) (n : Nat) (xs : List Value) (hs : a.eval s = v) (hown : w.ownsRow base e 1 v n xs)
    (ad : Option Addr) (c : Nat) (l : List Nat) (m : Nat) (hm : m = l.length) (hx : a.eval x = .slice ad m c) (hrow : U32At w ad l)
    (h63 : n + m ≤ maxLen) (hbytes : (n + m) * bytes ≤ 140737488355328) (hbase : base ≤ w.heap.size)
    (h : ∀ v' w', w'.ownsRow base e 1 v' (n + m) (xs ++ u32s l) → w.grownBy w' v.ownBlock → wpList P ops Q rest (a.put o.dst v') w') : wpList P ops Q (o :: rest) a w := by
  refine wpList_plain hgd fun _ hK => ?_
  have hK2 : ∀ v' w', w'.ownsRow base e 1 v' (n + m) (xs ++ u32s l) → w.grownBy w' v.ownBlock → _ := fun v' w' h2 h3 => hK _ _ (h v' w' h2 h3)
  subst hm
  cases ad with
  | some x0 =>
    refine wp_append_own w s x t ho base e i z 1 bytes ht hi hz hsize hby hzs (by decide) v n xs hs hown x0 l.length c (u32s l) hx (by rw [u32s_len]; omega) ?_ (u32s_ones l) h63 hbytes hbase fun v' w' h2 h3 _ => hK2 v' w' h2 h3
    intro j u hu
    have hj : j < l.length := by have := (List.getElem?_eq_some_iff.1 hu).1; rwa [u32s_len] at this
    obtain ⟨b, off, hb, _, hc⟩ := hrow.cell j hj
    simp only [Option.some.injEq] at hb
    subst hb
    rw [add_at, hc, ← hu]
    simp [u32s, List.getD_eq_getElem?_getD, hj]
  | none =>
    have hl : l = [] := by
      cases l with
      | nil => rfl
      | cons y t => obtain ⟨_, _, hb, _⟩ := hrow.cell 0 (by simp); cases hb
    subst hl
    have hrun := run_append_owned_none (P := P) (w := w) base t o.type e i 1 ht hi v n xs hown
    unfold Oper.wp
    simp only [List.length_nil] at hx
    have hc0 : ∀ c', (Builtin.append_ #[t, t] o.type #[v, .slice none 0 c']).run P w = .ok v w := fun c' => by
      refine Eq.trans ?_ (run_append_owned_none (P := P) (w := w) base t o.type e i 1 ht hi v n xs hown)
      rfl
    simp [execOp, ho, resolve, invoke, builtin, hs, hx, hc0, Result.andThen]
    exact hK2 _ _ (by simpa [u32s] using hown) (World.grownBy.refl _ _)
def MadeMarks (w : World) (S : Nat → Sl) (n : Nat) (rs : List Nat) (e : Ending) (w' : World) : Prop :=
  ∃ g B, e = .returned (.slice (some ⟨g, 0, none⟩) n n) ∧ w'.ownsRow w.heap.size 4 1 (.slice (some ⟨g, 0, none⟩) n n) n (boolR n B) ∧ (∀ j, j < n → (B j = true ↔ Rch S n rs (j + 1))) ∧ Below w.heap.size w w'
/-- the marks and the stack in memory -/
structure MarkRel (S : Nat → Sl) (n : Nat) (rs : List Nat) (q : Nat) (w1 : World) (gk : Nat) (x : Value) (B : Nat → Bool) (st : List Nat) (wr : World) : Prop where
  inv : MInv S n rs B st
  row : wr.ownsRow (q + 1) 4 1 (.slice (some ⟨q + 1, 0, none⟩) n n) n (boolR n B)
  val : ∃ a c, x = .slice a st.length c
  work : wr.ownsRow (q + 2) 26 1 x st.length (u32s st)
  lt : ∀ y ∈ st, y < 4294967296
  num : 3 * um n B + st.length ≤ gk
  big : gk ≤ 2000000
  below : Below (q + 1) w1 wr
section
variable {S : Nat → Sl} {n q gk gk' : Nat} {rs : List Nat} {w1 wr w' : World} {x x' : Value} {B : Nat → Bool} {st t : List Nat}
theorem MarkRel.from (h : MarkRel S n rs q w1 gk x B st wr) (hb : Below wr.heap.size wr w') (hs : q + 1 ≤ w1.heap.size) : MarkRel S n rs q w1 gk x B st w' :=
  ⟨h.inv, row_below h.row hb, h.val, row_below h.work hb, h.lt, h.num, h.big, h.below.trans (hb.mono (Nat.le_trans hs h.below.size))⟩
theorem MarkRel.pop {a : Option Addr} {c y : Nat} (h : MarkRel S n rs q w1 gk (.slice a (t.length + 1) c) B (t ++ [y]) wr) (hy : Al S n y → B (y - 1) = true) (hg : gk' < gk) (hg2 : 3 * um n B + t.length ≤ gk') : MarkRel S n rs q w1 gk' (.slice a t.length c) B t wr := by
  have hw := h.work
  rw [List.length_append] at hw
  obtain ⟨g, rfl⟩ := row_head hw (by simp)
  have h1 := row_cut hw (m := t.length) (by simp)
  rw [show (u32s (t ++ [y])).take t.length = u32s t by rw [u32s_app]; simp [u32s]] at h1
  exact ⟨h.inv.skip hy, h.row, ⟨_, _, rfl⟩, h1, fun z hz => h.lt z (by simp [hz]), hg2, by have := h.big; omega, h.below⟩
/-- a slot was marked, its children are not yet on the stack -/
structure MarkMid (n q : Nat) (w1 : World) (B : Nat → Bool) (x : Value) (t : List Nat) (wr : World) : Prop where
  row : wr.ownsRow (q + 1) 4 1 (.slice (some ⟨q + 1, 0, none⟩) n n) n (boolR n B)
  work : wr.ownsRow (q + 2) 26 1 x t.length (u32s t)
  below : Below (q + 1) w1 wr
theorem MarkMid.from (h : MarkMid n q w1 B x t wr) (hb : Below wr.heap.size wr w') (hs : q + 1 ≤ w1.heap.size) : MarkMid n q w1 B x t w' :=
  ⟨row_below h.row hb, row_below h.work hb, h.below.trans (hb.mono (Nat.le_trans hs h.below.size))⟩
theorem MarkRel.mid {a : Option Addr} {c j y : Nat} (h : MarkRel S n rs q w1 gk (.slice a (t ++ [y]).length c) B (t ++ [y]) wr) : MarkMid n q w1 (setB B j) (.slice a t.length c) t (wr.setCell ⟨q + 1, j, none⟩ (.bool true)) := by
  have hw := h.work
  rw [List.length_append] at hw
  obtain ⟨g, rfl⟩ := row_head hw (by simp)
  have h1 := row_cut hw (m := t.length) (by simp)
  rw [show (u32s (t ++ [y])).take t.length = u32s t by rw [u32s_app]; simp [u32s]] at h1
  refine ⟨?_, row_keep h1 fun k hk => heap_setCell_other _ _ _ _ ?_, h.below.setCell (Nat.le_refl _) _⟩
  · rw [← boolR_set]; exact (h.row.stored j _).1
  · have := row_from h1 k hk
    show k ≠ q + 1
    omega
theorem MarkMid.push {v : Value} {j : Nat} {w2 : World} (h : MarkMid n q w1 (setB B j) x t wr) (hr : MarkRel S n rs q w1 gk x' B (t ++ [j + 1]) w2) (hj : Al S n (j + 1)) (hb : B j = false) (hk : (S j).nd.left < 4294967296 ∧ (S j).nd.right < 4294967296)
    (hg : wr.grownBy w' x.ownBlock) (hv : w'.ownsRow (q + 2) 26 1 v (t.length + 2) (u32s t ++ [.int .u32 ((S j).nd.left : Int), .int .u32 ((S j).nd.right : Int)])) (h0 : 0 < gk) (hq : q + 1 ≤ w1.heap.size) :
    MarkRel S n rs q w1 (gk - 1) v (setB B j) (t ++ [(S j).nd.left, (S j).nd.right]) w' := by
  have hl : (t ++ [(S j).nd.left, (S j).nd.right]).length = t.length + 2 := by simp
  obtain ⟨a, c, hvv⟩ := row_val hv
  have hnum := hr.num
  rw [List.length_append] at hnum
  have hu := um_set B hb n (by have := hj.2.1; omega)
  refine ⟨hr.inv.mark hj, row_keep h.row fun k hk => hg.block k (row_lt h.row k hk).2 fun e => ?_, ⟨a, c, by rw [hl]; exact hvv⟩, ?_, fun y hy => ?_, ?_, by have := hr.big; omega, h.below.grown hg (Nat.le_trans hq h.below.size) fun k hk => ?_⟩
  · simp [Value.ownBlock] at hk; have := row_from h.work k e.symm; omega
  · rw [hl, u32s_app]; exact hv
  · rcases List.mem_append.1 hy with h1 | h1
    · exact hr.lt y (by simp [h1])
    · simp at h1; rcases h1 with rfl | rfl
      · exact hk.1
      · exact hk.2
  · rw [hl]; simp at hnum; omega
  · have := row_from h.work k hk; omega
end
set_option maxHeartbeats 4000000 in
set_option maxRecDepth 100000 in
theorem marks_any {w : World} {a b ra : Option Addr} {n c m d rc : Nat} {S : Nat → Sl} (rs : List Nat) (h : SlotsAt w a n S) (hr : U32At w ra rs) (hn : n ≤ 65536) (hl : rs.length ≤ 1000000) :
    Calls Tryz.prog 111 #[.agg #[.slice a n c, .slice b m d], .slice ra rs.length rc] w (MadeMarks w S n rs) := by
  obtain ⟨i0, hi, hz0, hz1, hz2⟩ := info_parts bInfo
  obtain ⟨i1, ji, jz0, jz1, jz2⟩ := info_parts uInfo
  have hni : (n : Int) ≤ 65536 := by omega
  have hni0 : (0 : Int) ≤ (n : Int) := by omega
  have hb1 : Below w.heap.size w (w.alloc (Obj.cells #[Value.slice a n c, Value.slice b m d] 33)) := (Below.refl _ _).alloc (Nat.le_refl _) _
  have HB := Lib.hid hb1
  have HS := Lib.hid (h.below hb1)
  have HR := Lib.hid (hr.below hb1)
  have HX := Lib.hid (DBox.new w a b n c m d)
  have hsz : (w.alloc (Obj.cells #[Value.slice a n c, Value.slice b m d] 33)).heap.size = w.heap.size + 1 := by simp
  have HZ := Lib.hid hsz
  obtain ⟨hc0, hc1⟩ := HX.out.cells
  obtain ⟨L, hL⟩ : ∃ L, rs.length = L := ⟨_, rfl⟩
  have HL := Lib.hid hL
  rw [hL] at hl ⊢
  have hLi : (L : Int) ≤ 1000000 := by omega
  clear hb1 h hr hsz hL
  go_enter Tryz.func111, Tryz.ntmps111
  go_upto_region 1 with fail
  generalize hW1 : w.alloc (Obj.cells #[Value.slice a n c, Value.slice b m d] 33) = w1 at *
  clear hW1
  generalize hQ : w.heap.size = q at *
  have HQ := Lib.hid hQ
  clear hQ
  go_upto_region 2 with (refine wpList_make_full _ rfl (.tmp 11) (.tmp 11) 160 rfl (q + 1) 4 i0 (.bool false) 1 Tryz.underlying160 hi hz0 hz1 .i64 .i64 (n : Int) (n : Int) n rfl rfl rfl rfl (by rw [hz2]; omega) (by unfold maxLen; omega) (Nat.le_of_eq HZ.out.symm) ?_; intro w2 ho2 hg2; rw [HZ.out])
  rw [boolR_zero, HZ.out] at ho2
  have hb2 : Below (q + 1) w1 w2 := (Below.refl _ _).grown hg2 (Nat.le_of_eq HZ.out.symm) (fun k hk => by cases hk)
  have hs2 : q + 2 ≤ w2.heap.size := (row_lt ho2 (q + 1) rfl).2
  have hr2 := HR.out.below (hb2.mono (Nat.le_of_eq HZ.out))
  clear hg2
  go_upto_region 3 with (at_builtin; refine wpList_append_at rfl (.const (.slice none 0 0)) (.tmp 13) 31 rfl (q + 2) 26 i1 (.int .u32 0) 4 Tryz.underlying31 ji jz0 jz1 jz2 rfl (.slice none 0 0) 0 [] rfl (World.ownsRow_nil _ _ _ _) ra rc rs L HL.out.symm rfl hr2 (by unfold maxLen; omega) (by omega) hs2 ?_; intro v3 w3 ho3 hg3)
  rw [Nat.zero_add, List.nil_append] at ho3
  have hb3 : Below (q + 2) w2 w3 := (Below.refl _ _).grown hg3 hs2 (fun k hk => by cases hk)
  obtain ⟨a3, c3, hv3⟩ := row_val ho3
  have HM : Hid (MarkRel S n rs q w1 (3 * n + L) v3 (fun _ => false) rs w3) := by
    refine ⟨MInv.start S n rs, row_keep ho2 fun k hk => ?_, ⟨a3, c3, by rw [HL.out]; exact hv3⟩, by rw [HL.out]; exact ho3, HR.out.lt, ?_, by omega, hb2.trans (hb3.mono (by omega))⟩
    · simp [Value.ownBlock] at hk; subst hk; exact hb3.block _ (by omega)
    · have := um_le (fun _ => false) n; rw [HL.out]; omega
  clear ho2 hb2 hs2 hr2 ho3 hb3 hv3 hg3 hc0 hc1
  go_wp2_with fail
  go_loopg [6] (3 * n + L) (fun k x wr => ∃ B st, MarkRel S n rs q w1 k x B st wr)
  case atStart => exact ⟨_, _, HM.out⟩
  case round =>
    clear HM
    obtain ⟨B, st, hM⟩ := hrel
    have hb := hM.below
    obtain ⟨xa, xc, rfl⟩ := hM.val
    rcases List.eq_nil_or_concat st with rfl | ⟨t, y, rfl⟩
    · have HMM := Lib.hid hM
      clear hM hb
      rw [show ([] : List Nat).length = 0 from rfl]
      go_wp2
      go_ret
      exact ⟨_, B, rfl, row_mono HMM.out.row (by rw [HQ.out]; omega), fun j hj => HMM.out.inv.done hj, by rw [HQ.out]; exact HB.out.trans (HMM.out.below.mono (by omega))⟩
    · rw [List.concat_eq_append] at *
      obtain ⟨T, hT⟩ : ∃ T, t.length = T := ⟨_, rfl⟩
      have hTl : (t ++ [y]).length = T + 1 := by rw [List.length_append, hT]; rfl
      have hw := hM.work
      rw [hTl] at hw
      obtain ⟨g, rfl⟩ := row_head hw (by omega)
      have hcap := row_caps hw
      have hcy := hw.cellAt T (by omega)
      rw [← hT, u32s_last, hT] at hcy
      have hy4 : y < 4294967296 := hM.lt y (by simp)
      have hTb : T + 1 ≤ 2000000 := by have h8 := hM.num; have h9 := hM.big; rw [hTl] at h8; omega
      have hTi : (T : Int) + 1 ≤ 2000000 := by omega
      have hTi0 : (0 : Int) ≤ (T : Int) := by omega
      have hxc : (T : Int) + 1 ≤ (xc : Int) := by omega
      have hxc2 : (xc : Int) ≤ 9223372036854775807 := by have := hcap.2; unfold maxLen at this; omega
      have hX := HX.out.below hb (by omega)
      obtain ⟨hc0, hc1⟩ := hX.cells
      have hSS := HS.out.below (hb.mono (Nat.le_of_eq HZ.out))
      have HMM := Lib.hid hM
      have HTT := Lib.hid hT
      have HSS := Lib.hid hSS
      have HTL := Lib.hid hTl
      rw [hTl]
      clear hM hw hcap hT hTb hX hSS hTl
      go_wp2_with fail
      refine (dallocated_any HSS.out hn hy4).mono ?_
      rintro e w4 ⟨rfl, hb4⟩
      have hM4 := HMM.out.from hb4 (Nat.le_of_eq HZ.out.symm)
      have hbb := hM4.below
      clear hcy hc0 hc1
      have hnum := HMM.out.num
      rw [HTL.out] at hnum
      by_cases hal : Al S n y
      · rw [show decide (1 ≤ y ∧ y ≤ n ∧ (S (y - 1)).on = true) = true from decide_eq_true hal]
        obtain ⟨j, rfl⟩ : ∃ j, y = j + 1 := ⟨y - 1, by have := hal.1; omega⟩
        have hjn : j < n := by have := hal.2.1; omega
        have hji : (j : Int) < (n : Int) := by omega
        have hj0 : (0 : Int) ≤ (j : Int) := by omega
        have hyi : ((j + 1 : Nat) : Int) = (j : Int) + 1 := by omega
        have hcB := (hM4.row.cellAt j (by omega)).trans (boolR_at B hjn)
        have hfB := hM4.row.frozenAt j
        have HAL := Lib.hid hal
        have HM4 := Lib.hid hM4
        have HN := Lib.hid hnum
        clear hal hM4 hb4 hnum hb
        cases hBj : B j
        · rw [hBj] at hcB
          have HBJ := Lib.hid hBj
          clear hBj
          have hMid := HM4.out.mid (j := j)
          rw [HTT.out] at hMid
          go_upto_region 8 with fail
          clear hcB hfB hbb
          have hbb := hMid.below
          have HMid := Lib.hid hMid
          generalize w4.setCell ⟨q + 1, j, none⟩ (.bool true) = w5 at HMid hbb ⊢
          obtain ⟨hc0, hc1⟩ := (HX.out.below hbb (by omega)).cells
          obtain ⟨b', off, rfl, hlb, d0, d1, d2, d3, d4, d5, d6, d7, d8, d9, d10⟩ := (HS.out.below (hbb.mono (Nat.le_of_eq HZ.out))).all hjn
          clear hMid hbb
          go_wp2_with fail
          refine (kids_any _ _ _ _ _ _ _ _ _ _ _ _).mono ?_
          rintro e w6 ⟨rfl, hb6⟩
          clear hc0 hc1 d0 d1 d2 d3 d4 d5 d6 d7 d8 d9 d10
          have hM6 := HMid.out.from hb6 (Nat.le_of_eq HZ.out.symm)
          have hal7 := (Below.refl w6.heap.size w6).alloc (Nat.le_refl _) (Obj.cells #[Value.int .u32 ((S j).nd.left : Int), .int .u32 ((S j).nd.right : Int)] 50)
          have hM7 := hM6.from hal7 (Nat.le_of_eq HZ.out.symm)
          have hK := heap_alloc_new w6 (Obj.cells #[Value.int .u32 ((S j).nd.left : Int), .int .u32 ((S j).nd.right : Int)] 50)
          go_upto_region 9 with fail
          generalize w6.alloc (Obj.cells #[Value.int .u32 ((S j).nd.left : Int), .int .u32 ((S j).nd.right : Int)] 50) = w7 at hM7 hK ⊢
          clear hM6 hal7 hb6 hlb
          generalize w6.heap.size = kb at hK ⊢
          obtain ⟨k0, k1⟩ := two_cells hK
          have hal8 := (Below.refl w7.heap.size w7).alloc (Nat.le_refl _) (Obj.cells #[Value.int .u32 ((S j).nd.left : Int), .int .u32 ((S j).nd.right : Int)] 26)
          have hM8 := hM7.from hal8 (Nat.le_of_eq HZ.out.symm)
          have hs8 : q + 2 ≤ (w7.alloc (Obj.cells #[Value.int .u32 ((S j).nd.left : Int), .int .u32 ((S j).nd.right : Int)] 26)).heap.size := (row_lt hM8.row (q + 1) rfl).2
          have HM8 := Lib.hid hM8
          have hwk := hM8.work
          rw [HTT.out] at hwk
          clear hM7 hal8 hM8 hK
          go_wp2_with (at_builtin; refine wpList_append_own _ rfl (.tmp 51) (.tmp 56) 31 rfl (q + 2) 26 i1 (.int .u32 0) 1 4 Tryz.underlying31 ji jz0 jz1 jz2 rfl (by decide) _ T (u32s t) rfl hwk ⟨w7.heap.size, 0, none⟩ 2 2 [.int .u32 ((S j).nd.left : Int), .int .u32 ((S j).nd.right : Int)] rfl rfl (cell_new2 _ _ _ _) (one_cell2 _ _ _) (by unfold maxLen; omega) (by omega) hs8 ?_; intro v9 w9 ho9 hg9 _)
          rw [← HTT.out] at ho9
          go_roundg (gk - 1)
          case measure => have := HN.out; omega
          case rel => exact ⟨setB B j, _, HM8.out.push HM4.out HAL.out HBJ.out (HS.out.kid j hjn) hg9 ho9 (by have := HN.out; omega) (Nat.le_of_eq HZ.out.symm)⟩
        · rw [hBj] at hcB
          have HBJ := Lib.hid hBj
          clear hBj hbb
          go_wp2
          go_roundg (gk - 1)
          case measure => have := HN.out; omega
          case rel =>
            have h9 := HM4.out
            rw [HTL.out] at h9
            rw [← HTT.out] at h9 ⊢
            exact ⟨B, t, h9.pop (fun _ => HBJ.out) (by have := HN.out; omega) (by have := HN.out; have := HTT.out; omega)⟩
      · rw [show decide (1 ≤ y ∧ y ≤ n ∧ (S (y - 1)).on = true) = false from decide_eq_false hal]
        have HAL := Lib.hid hal
        have HM4 := Lib.hid hM4
        have HN := Lib.hid hnum
        clear hal hM4 hb4 hnum hb hbb
        go_wp2
        go_roundg (gk - 1)
        case measure => have := HN.out; omega
        case rel =>
          have h9 := HM4.out
          rw [HTL.out] at h9
          rw [← HTT.out] at h9 ⊢
          exact ⟨B, t, h9.pop (fun h => absurd h HAL.out) (by have := HN.out; omega) (by have := HN.out; have := HTT.out; omega)⟩
theorem run_pop0 (f : Nat) (A : Ar) (t : List Nat) : Ar.run (f + 1) A (0 :: t) = Ar.run f A t := by
  conv => lhs; unfold Ar.run
  rw [if_pos rfl]
theorem run_popDec (f : Nat) (A : Ar) {i : Nat} (t : List Nat) (h0 : i ≠ 0) (hc : A.cnt i ≠ 1) : Ar.run (f + 1) A (i :: t) = Ar.run f (A.dec i) t := by
  conv => lhs; unfold Ar.run
  rw [if_neg h0, if_neg hc]
theorem run_popDrop (f : Nat) (A : Ar) {i : Nat} (t : List Nat) (h0 : i ≠ 0) (hc : A.cnt i = 1) : Ar.run (f + 1) A (i :: t) = ((Ar.run f (A.drop i) ((A.nd i).left :: (A.nd i).right :: t)).1, (Ar.run f (A.drop i) ((A.nd i).left :: (A.nd i).right :: t)).2 + 1) := by
  conv => lhs; unfold Ar.run
  rw [if_neg h0, if_pos hc]
theorem run_nil (f : Nat) (A : Ar) : Ar.run f A [] = (A, 0) := by cases f <;> rfl
/-- the cascade at hand in memory: A' is the arena, s the stack, n slots have become free -/
structure RelR (I : Impl) (w : World) (ab : Nat) (sp : Addr) (A : Ar) (rd : Int) (g cc : Nat) (Fs : Nat → Prop) (held : Nat → Nat) (i k : Nat) (n : Nat) (x : Value) (A' : Ar) (s : List Nat) (Fs' : Nat → Prop) (wr : World) : Prop where
  val : ∃ a c, x = .slice a s.length c
  work : wr.ownsRow w.heap.size 26 1 x s.length (u32s s.reverse)
  lie : LieA I wr ab sp A' rd (some ⟨g, 0, none⟩) cc Fs'
  alt : Alters (FootA ab (some ⟨g, 0, none⟩) Fs) (FootA ab (some ⟨g, 0, none⟩) Fs') w wr
  sep : ∀ b, x.ownBlock = some b → ¬ FootA ab (some ⟨g, 0, none⟩) Fs' b
  inv : A'.Inv s held
  run : (Ar.run k A' s).1 = A.gone i ∧ (Ar.run k A' s).2 + n = A.freed i
  fuel : 3 * (A'.σ.cap - A'.σ.free.length) + s.length ≤ k
  big : k ≤ 200000
  few : n + (A'.σ.cap - A'.σ.free.length) ≤ 65536
section
variable {I : Impl} {w w' wr : World} {ab : Nat} {sp : Addr} {A A' : Ar} {rd : Int} {cc g : Nat} {Fs Fs' Fs2 : Nat → Prop} {held : Nat → Nat} {i k n : Nat} {x v : Value} {s t : List Nat}
/-- what lies in memory behind the pop and the removal -/
structure MidR (I : Impl) (w : World) (ab : Nat) (sp : Addr) (rd : Int) (g cc : Nat) (Fs : Nat → Prop) (x : Value) (A' : Ar) (t : List Nat) (Fs' : Nat → Prop) (wr : World) : Prop where
  work : wr.ownsRow w.heap.size 26 1 x t.length (u32s t.reverse)
  lie : LieA I wr ab sp A' rd (some ⟨g, 0, none⟩) cc Fs'
  alt : Alters (FootA ab (some ⟨g, 0, none⟩) Fs) (FootA ab (some ⟨g, 0, none⟩) Fs') w wr
  sep : ∀ b, x.ownBlock = some b → ¬ FootA ab (some ⟨g, 0, none⟩) Fs' b
theorem MidR.below (h : MidR I w ab sp rd g cc Fs x A' t Fs' wr) (hb : Below wr.heap.size wr w') : MidR I w ab sp rd g cc Fs x A' t Fs' w' :=
  ⟨row_below h.work hb, h.lie.below hb, h.alt.trans (.of_below hb), h.sep⟩
theorem RelR.mid {y : Nat} {a : Addr} {c : Nat} {B : Ar} (h : RelR I w ab sp A rd g cc Fs held i k n (.slice (some a) (t.length + 1) c) A' (y :: t) Fs' wr) (ha : Alters (FootA ab (some ⟨g, 0, none⟩) Fs') (FootA ab (some ⟨g, 0, none⟩) Fs2) wr w') (hl : LieA I w' ab sp B rd (some ⟨g, 0, none⟩) cc Fs2) :
    MidR I w ab sp rd g cc Fs (.slice (some a) t.length c) B t Fs2 w' := by
  have hw := h.work
  rw [List.length_cons] at hw
  obtain ⟨g2, hg2⟩ := row_head hw (by omega)
  rw [hg2] at hw ⊢
  have h1 := row_cut hw (m := t.length) (by omega)
  have e : (u32s (y :: t).reverse).take t.length = u32s t.reverse := by
    rw [List.reverse_cons, u32s_app]
    exact List.take_left' (by simp [u32s])
  rw [e] at h1
  have hs : ∀ b, (Value.slice (some (⟨g2, 0, none⟩ : Addr)) t.length c).ownBlock = some b → ¬ FootA ab (some ⟨g, 0, none⟩) Fs' b := fun b hb => h.sep b (by rw [hg2]; exact hb)
  have h2 := ha.apart (G := fun b => (Value.slice (some (⟨g2, 0, none⟩ : Addr)) t.length c).ownBlock = some b) fun b hb => ⟨(row_lt h1 b hb).2, hs b hb⟩
  exact ⟨ha.row h1 hs, hl, h.alt.trans ha, fun b hb => (h2 b hb).2⟩
/-- the children are pushed -/
theorem MidR.push {l r : Nat} (h : MidR I w ab sp rd g cc Fs x A' t Fs' wr) (hg : wr.grownBy w' x.ownBlock) (hr : w'.ownsRow w.heap.size 26 1 v (t.length + 2) (u32s t.reverse ++ [.int .u32 (r : Int), .int .u32 (l : Int)]))
    (hv : v.ownBlock = x.ownBlock ∨ v.ownBlock = some wr.heap.size) : MidR I w ab sp rd g cc Fs v A' (l :: r :: t) Fs' w' := by
  refine ⟨?_, h.lie.keep fun b hb => hg.block b (h.lie.dom b hb) fun e => h.sep b e.symm hb, ⟨hg.os.trans h.alt.os, hg.tape.trans h.alt.tape, hg.output.trans h.alt.output, Nat.le_trans h.alt.size hg.size, fun b hb hF => (hg.block b (Nat.lt_of_lt_of_le hb h.alt.size) fun e => ?_).trans (h.alt.block b hb hF), h.alt.foot⟩, fun b hb hF => ?_⟩
  · rw [show (l :: r :: t).reverse = t.reverse ++ [r, l] by simp, u32s_app]
    exact hr
  · have := row_from h.work b e.symm; omega
  · rcases hv with e | e
    · exact h.sep b (e ▸ hb) hF
    · rw [e] at hb; simp at hb; have := h.lie.dom b hF; omega
set_option maxHeartbeats 1000000 in
set_option maxRecDepth 100000 in
theorem a_release_bad (h : LieA I w ab sp A rd (some ⟨g, 0, none⟩) cc Fs) (i : Nat) (hi : i < 4294967296) (hb : ¬ A.Idx i) :
    Calls Tryz.prog 14 #[.pointer (some ⟨ab, 0, none⟩), .int .u32 (i : Int)] w (Calm w (.tuple #[.int .i64 0, .int .i64 3])) := by
  have hx : (decide (i = 0) || A.σ.on i) = false := by
    unfold Ar.Idx at hb
    have h1 : ¬ i = 0 := fun e => hb (.inl e)
    have h2 : ¬ A.σ.on i = true := fun e => hb (.inr e)
    simp [h1, h2]
  have HI := Lib.hid (a_isIndex h i hi)
  have HX := Lib.hid hx
  clear h hb hx
  go_enter Tryz.func14, Tryz.ntmps14
  go_wp2_with fail
  refine HI.out.mono ?_
  rintro e w2 ⟨rfl, q, rfl⟩
  rw [HX.out]
  clear HI HX
  go_wp2_with fail
  go_ret2
  exact ⟨rfl, below_drewN (Below.refl _ _) _⟩
def ARel (I : Impl) (w : World) (ab : Nat) (sp : Addr) (A : Ar) (rd : Int) (g cc : Nat) (Fs : Nat → Prop) (i : Nat) (e : Ending) (w' : World) : Prop :=
  ∃ Fs', Alters (FootA ab (some ⟨g, 0, none⟩) Fs) (FootA ab (some ⟨g, 0, none⟩) Fs') w w' ∧ e = .returned (.tuple #[.int .i64 (A.freed i : Int), .int .i64 0]) ∧ LieA I w' ab sp (A.gone i) rd (some ⟨g, 0, none⟩) cc Fs'
theorem u32InfoA : (Tryz.prog.info? 26).map (fun i => (i.zero, i.size, i.bytes)) = some (some (.int .u32 0), 1, 4) := by kernel_rfl
set_option maxHeartbeats 4000000 in
set_option maxRecDepth 100000 in
theorem a_release (h : LieA I w ab sp A rd (some ⟨g, 0, none⟩) cc Fs) (i : Nat) (hi : i < 4294967296) (hb : A.Idx i) (hinv : A.Inv [i] held) :
    Calls Tryz.prog 14 #[.pointer (some ⟨ab, 0, none⟩), .int .u32 (i : Int)] w (ARel I w ab sp A rd g cc Fs i) := by
  obtain ⟨i1, ji, jz0, jz1, jz2⟩ := info_parts u32InfoA
  have hx : (decide (i = 0) || A.σ.on i) = true := by
    rcases hb with e | e
    · simp [e]
    · simp [e]
  have HI := Lib.hid (a_isIndex h i hi)
  have HX := Lib.hid hx
  have HH := Lib.hid h
  have HINV := Lib.hid hinv
  clear h hx hb hinv
  go_enter Tryz.func14, Tryz.ntmps14
  go_wp2_with fail
  refine HI.out.mono ?_
  rintro e w1 ⟨rfl, q, rfl⟩
  rw [HX.out]
  have hb1 : Below w.heap.size w (w.drewN q) := below_drewN (Below.refl _ _) q
  generalize w.drewN q = w1 at hb1 ⊢
  have h1 := HH.out.below hb1
  have hal := below_al w1 (Obj.cells #[Value.int .u32 (i : Int)] 26)
  have hrow := World.ownsRow_lit (base := w.heap.size) (e := 26) (size := 1) w1 #[Value.int .u32 (i : Int)] 1 hb1.size (by decide) rfl
  have hlen := HINV.out.ok.len
  have hcap := HINV.out.ok.cap2
  have HM : Hid (RelR I w ab sp A rd g cc Fs held i A.fuel 0 (.slice (some ⟨w1.heap.size, 0, none⟩) 1 1) A [i] Fs (w1.alloc (Obj.cells #[Value.int .u32 (i : Int)] 26))) := by
    refine ⟨⟨_, _, rfl⟩, hrow, h1.below hal, .of_below (trans_of' hb1 hal), fun b hb hF => ?_, HINV.out, ⟨rfl, rfl⟩, ?_, ?_, by omega⟩
    · simp [Value.ownBlock] at hb
      have := h1.dom b hF
      omega
    · unfold Ar.fuel; simp; omega
    · unfold Ar.fuel; omega
  clear h1 hal hrow hlen hcap hb1 HI HX
  go_wp2_with fail
  go_loopg [6, 7] A.fuel (fun gk fr x wr => ∃ n A' s Fs', fr = .int .i64 ((n : Nat) : Int) ∧ RelR I w ab sp A rd g cc Fs held i gk n x A' s Fs' wr)
  case atStart => exact ⟨0, _, _, _, rfl, HM.out⟩
  case round =>
    clear HM
    obtain ⟨n, A', s, Fs', rfl, hM⟩ := hrel
    obtain ⟨xa, xc, rfl⟩ := hM.val
    have hnb := hM.few
    rcases (show s = [] ∨ ∃ y t, s = y :: t by cases s with | nil => exact .inl rfl | cons y t => exact .inr ⟨y, t, rfl⟩) with rfl | ⟨y, t, rfl⟩
    · have HMM := Lib.hid hM
      clear hM hnb
      rw [show ([] : List Nat).length = 0 from rfl]
      go_wp2_with fail
      go_ret2
      have hr := HMM.out.run
      rw [run_nil] at hr
      refine ⟨Fs', HMM.out.alt, by rw [← hr.2]; simp, ?_⟩
      rw [← hr.1]
      exact HMM.out.lie
    · obtain ⟨T, hT⟩ : ∃ T, t.length = T := ⟨_, rfl⟩
      have hw := hM.work
      rw [List.length_cons, hT] at hw hM
      obtain ⟨g2, rfl⟩ := row_head hw (by omega)
      have hcap2 := row_caps hw
      have hcy := hw.cellAt T (by omega)
      have hey : (u32s (y :: t).reverse)[T]? = some (.int .u32 (y : Int)) := by rw [List.reverse_cons, ← hT, ← List.length_reverse]; exact u32s_last _ _
      rw [hey] at hcy
      have hfu := hM.fuel
      have hbig := hM.big
      rw [List.length_cons, hT] at hfu
      obtain ⟨gk, rfl⟩ : ∃ k, gk = k + 1 := ⟨gk - 1, by omega⟩
      have hTi : (T : Int) + 1 ≤ 200000 := by omega
      have hTi0 : (0 : Int) ≤ (T : Int) := by omega
      have hxc : (T : Int) + 1 ≤ (xc : Int) := by omega
      have hxc2 : (xc : Int) ≤ 9223372036854775807 := by have := hcap2.2; unfold maxLen at this; omega
      have hni : (n : Int) ≤ 65536 := by omega
      have hni0 : (0 : Int) ≤ (n : Int) := by omega
      have hyi : y = 0 ∨ A'.σ.on y = true := hM.inv.stack y (by simp)
      have hy4 : y < 4294967296 := by
        rcases hyi with h | h
        · omega
        · have := hM.lie.ok.on y h; have := hM.lie.ok.cap2; omega
      have HREM := Lib.hid (a_remove hM.lie y hy4 (fun h => hM.inv.pos y h))
      have HMM := Lib.hid hM
      have HT := Lib.hid hT
      have HYI := Lib.hid hyi
      have HFU := Lib.hid hfu
      have HNB := Lib.hid hnb
      rw [List.length_cons, hT]
      clear hM hw hcap2 hey hfu hbig hT hyi hnb hy4
      go_wp2_with fail
      refine HREM.out.mono ?_
      rintro e w4 ⟨Fs2, ha4, hoff, hdec, hdrop⟩
      clear hcy HREM
      have hrl := HMM.out
      rw [← HT.out] at hrl
      by_cases h0 : y = 0
      · subst h0
        have ho0 : A'.σ.on 0 = false := by
          cases hq : A'.σ.on 0 with
          | false => rfl
          | true => have := HMM.out.lie.ok.on 0 hq; omega
        obtain ⟨rfl, hl4⟩ := hoff ho0
        have hmid := hrl.mid ha4 hl4
        rw [HT.out] at hmid
        have HMID := Lib.hid (hmid.below (below_al w4 (Obj.cells (nodA Nd.zero) 81)))
        clear hoff hdec hdrop hrl ha4 hl4 hmid ho0
        unfold nodA
        go_wp2_with fail
        unfold nodA at HMID
        go_roundg gk
        case measure => omega
        case rel =>
          have hr := HMM.out.run
          rw [run_pop0] at hr
          have hm := HMID.out
          rw [← HT.out] at hm ⊢
          exact ⟨n, A', t, Fs2, rfl, ⟨_, _, rfl⟩, hm.work, hm.lie, hm.alt, hm.sep, HMM.out.inv.pop0, hr, by have := HFU.out; have := HT.out; omega, by have := HMM.out.big; omega, HMM.out.few⟩
      · have hon : A'.σ.on y = true := by
          rcases HYI.out with h | h
          · exact absurd h h0
          · exact h
        by_cases hc1 : A'.cnt y = 1
        · obtain ⟨rfl, hl4⟩ := hdrop hon hc1
          have hmid := hrl.mid ha4 hl4
          rw [HT.out] at hmid
          have hal5 := below_al w4 (Obj.cells (nodA (A'.nd y)) 81)
          have HMID := Lib.hid (hmid.below hal5)
          have HX5 := Lib.hid (heap_alloc_new w4 (Obj.cells (nodA (A'.nd y)) 81))
          have HON := Lib.hid hon
          have HC1 := Lib.hid hc1
          have HY0 := Lib.hid h0
          clear hoff hdec hdrop hrl ha4 hl4 hmid hal5 hon hc1 h0
          unfold nodA
          go_upto_region 10 with fail
          rw [show #[Value.int .i64 (A'.nd y).key, .int .i64 (A'.nd y).val, .int .u32 ((A'.nd y).left : Int), .int .u32 ((A'.nd y).right : Int), .int .i64 (A'.nd y).size, .int .i64 (A'.nd y).sum, .int .i64 (A'.nd y).mn, .int .i64 (A'.nd y).mx] = nodA (A'.nd y) from rfl]
          generalize w4.alloc (Obj.cells (nodA (A'.nd y)) 81) = w5 at HMID HX5 ⊢
          generalize w4.heap.size = p5 at HX5 ⊢
          obtain ⟨_, _, z2, z3, _⟩ := row8v HX5.out
          have hal6 := below_al w5 (Obj.cells #[Value.int .u32 ((A'.nd y).right : Int), .int .u32 ((A'.nd y).left : Int)] 26)
          have hm6 := HMID.out.below hal6
          have hwk := hm6.work
          rw [HT.out] at hwk
          have hsz6 := hm6.alt.size
          have HM6 := Lib.hid hm6
          clear hal6 hm6
          go_wp2_with (at_builtin; refine wpList_append_own_at _ rfl (.tmp 40) (.tmp 45) 31 rfl w.heap.size 26 i1 (.int .u32 0) 1 4 Tryz.underlying31 ji jz0 jz1 jz2 rfl (by decide) _ T (u32s t.reverse) rfl hwk ⟨w5.heap.size, 0, none⟩ 2 2 [.int .u32 ((A'.nd y).right : Int), .int .u32 ((A'.nd y).left : Int)] rfl rfl (cell_new2 _ _ _ _) (one_cell2 _ _ _) (by unfold maxLen; omega) (by omega) hsz6 ?_; intro v9 w9 ho9 hg9 _ hv9)
          rw [← HT.out] at ho9
          go_roundg gk
          case measure => omega
          case rel =>
            have hm := HM6.out.push hg9 ho9 hv9
            have hr := HMM.out.run
            rw [run_popDrop gk A' t HY0.out HC1.out] at hr
            obtain ⟨va, vc, hvv⟩ := row_val ho9
            have hlt : A'.σ.free.length + 1 ≤ A'.σ.cap := by
              have h2 := (St.put_ok HMM.out.lie.ok HON.out).len
              simp [St.put] at h2
              exact h2
            have hfl : (A'.drop y).σ.free.length = A'.σ.free.length + 1 := by simp [Ar.drop, St.put]
            have hcp : (A'.drop y).σ.cap = A'.σ.cap := rfl
            refine ⟨n + 1, A'.drop y, (A'.nd y).left :: (A'.nd y).right :: t, Fs2, by go_num, ⟨va, vc, hvv⟩, hm.work, hm.lie, hm.alt, hm.sep, HMM.out.inv.popDrop HON.out HC1.out, ⟨hr.1, by have := hr.2; simp only at this; omega⟩, ?_, by have := HMM.out.big; omega, ?_⟩
            · rw [hfl, hcp]
              have := HFU.out
              have := HT.out
              simp only [List.length_cons]
              omega
            · rw [hfl, hcp]
              have := HNB.out
              omega
        · obtain ⟨rfl, hl4⟩ := hdec hon hc1
          have hmid := hrl.mid ha4 hl4
          rw [HT.out] at hmid
          have HMID := Lib.hid (hmid.below (below_al w4 (Obj.cells (nodA Nd.zero) 81)))
          have HON := Lib.hid hon
          have HC1 := Lib.hid hc1
          have HY0 := Lib.hid h0
          clear hoff hdec hdrop hrl ha4 hl4 hmid hon hc1 h0
          unfold nodA
          go_wp2_with fail
          unfold nodA at HMID
          go_roundg gk
          case measure => omega
          case rel =>
            have hr := HMM.out.run
            rw [run_popDec gk A' t HY0.out HC1.out] at hr
            have hm := HMID.out
            rw [← HT.out] at hm ⊢
            have hpos := HMM.out.inv.pos y HON.out
            have h1 := HC1.out
            exact ⟨n, A'.dec y, t, Fs2, rfl, ⟨_, _, rfl⟩, hm.work, hm.lie, hm.alt, hm.sep, HMM.out.inv.popDec HON.out (by omega), hr, by have := HFU.out; have := HT.out; show 3 * (A'.σ.cap - A'.σ.free.length) + _ ≤ _; omega, by have := HMM.out.big; omega, HMM.out.few⟩
end
def celZ : Value := .agg #[.int .i64 0, .int .i64 0, .int .u32 0, .int .u32 0, .int .i64 0, .int .i64 0, .int .i64 0, .int .i64 0, .int .i64 0]
theorem celInfo : (Tryz.prog.info? 83).map (fun i => (i.zero, i.size, i.bytes)) = some (some celZ, 9, 64) := by kernel_rfl
theorem cels_zero (n : Nat) : (madeCells celZ.cells (n * 9)).toList = celsV (Ar.init n) := by
  refine cels_ext (by rw [Array.length_toList, size_madeCells]; rfl) fun i j hi hj => ?_
  have hi' : i < n := hi
  unfold madeCells
  simp only [Array.toList_map, Array.toList_range, List.getElem?_map, List.getElem?_range (show i * 9 + j < n * 9 by omega), Option.map_some]
  have e : (i * 9 + j) % celZ.cells.size = j := by
    show (i * 9 + j) % 9 = j
    omega
  rcases (show j = 0 ∨ j = 1 ∨ j = 2 ∨ j = 3 ∨ j = 4 ∨ j = 5 ∨ j = 6 ∨ j = 7 ∨ j = 8 by omega) with h | h | h | h | h | h | h | h | h <;> (subst h; rw [e]; rfl)
section
variable {I : Impl} {w w' wr : World} {ab : Nat} {sp : Addr} {A A' : Ar} {rd : Int} {cc g : Nat} {Fs Fs' : Nat → Prop}
set_option maxHeartbeats 1000000 in
set_option maxRecDepth 100000 in
theorem a_new_bad (I : Impl) (n : Int) (w : World) (h1 : -9223372036854775808 ≤ n) (h2 : n ≤ 9223372036854775807) (h : n < 1 ∨ 65536 < n) :
    Calls Tryz.prog 30 #[.int .i64 n] w (Calm w (.tuple #[.pointer none, .int .i64 1])) := by
  have HN := Lib.hid (I.new_bad n w h1 h2 h)
  clear h
  go_enter Tryz.func30, Tryz.ntmps30
  go_wp2_with fail
  refine HN.out.mono ?_
  rintro e w1 ⟨rfl, hb⟩
  have HB := Lib.hid hb
  clear hb HN
  go_wp2_with fail
  go_ret2
  exact ⟨rfl, HB.out⟩
def ANewR (I : Impl) (w : World) (n : Nat) (e : Ending) (w' : World) : Prop :=
  ∃ (ab : Nat) (sp : Addr) (g : Nat) (Fs : Nat → Prop), e = .returned (.tuple #[.pointer (some ⟨ab, 0, none⟩), .int .i64 0]) ∧ LieA I w' ab sp (Ar.init n) 0 (some ⟨g, 0, none⟩) n Fs ∧ (∀ k, FootA ab (some ⟨g, 0, none⟩) Fs k → w.heap.size ≤ k) ∧ Below w.heap.size w w'
set_option maxHeartbeats 2000000 in
set_option maxRecDepth 100000 in
theorem a_new (I : Impl) (n : Nat) (w : World) (h1 : 1 ≤ n) (h2 : n ≤ 65536) : Calls Tryz.prog 30 #[.int .i64 (n : Int)] w (ANewR I w n) := by
  obtain ⟨i0, hi, hz0, hz1, hz2⟩ := info_parts celInfo
  have hni : (n : Int) ≤ 65536 := by omega
  have hni1 : (1 : Int) ≤ (n : Int) := by omega
  go_enter Tryz.func30, Tryz.ntmps30
  go_wp2_with fail
  refine (I.new_ok n _ h1 h2).mono ?_
  rintro e w1 ⟨p, Fs, rfl, hs, hF, hb⟩
  obtain ⟨sp, rfl⟩ := I.ptr hs
  go_wp2_with (refine wpList_make_full _ rfl (.tmp 15) (.tmp 15) 77 rfl 0 83 i0 celZ 9 Tryz.underlying77 hi hz0 hz1 .i64 .i64 (n : Int) (n : Int) n rfl rfl rfl rfl (by rw [hz2]; omega) (by unfold maxLen; omega) (Nat.zero_le _) ?_; intro w2 ho2 hg2)
  go_ret2
  have hb2 : Below w1.heap.size w1 w2 := (Below.refl _ _).grown hg2 (Nat.le_refl _) (fun k hk => by cases hk)
  have hal := below_al w2 (Obj.cells #[Value.pointer (some sp), Value.slice (some ⟨w1.heap.size, 0, none⟩) n n, Value.int .u64 0] 79)
  have hs12 := hb2.size
  have hb3 := hb2.trans (hal.mono hs12)
  have hlt := (row_lt ho2 w1.heap.size rfl).2
  have hs01 := hb.size
  rw [cels_zero] at ho2
  refine ⟨w2.heap.size, sp, w1.heap.size, Fs, rfl, ⟨I.below hs hb3, heap_alloc_new w2 _, row_below ho2 hal, fun _ _ => ⟨rfl, rfl⟩, fun _ => ⟨Int.le_refl 0, show (0 : Int) ≤ 9223372036854775807 by decide⟩, fun hf => ?_, fun k hk => ?_⟩, fun k hk => ?_, hb.trans (hb3.mono hs01)⟩
  · have := I.dom hs _ hf; omega
  · simp [Value.ownBlock] at hk
    subst hk
    exact ⟨fun hf => by have := I.dom hs _ hf; omega, by omega⟩
  · rcases hk with rfl | ⟨x, hx, rfl⟩ | hk
    · omega
    · simp at hx; subst hx; exact hs01
    · exact hF k hk
end
def sltZ : Value := .agg #[.bool false, .int .i64 0, .int .u32 0, .int .i64 0, .int .i64 0, .int .u32 0, .int .u32 0, .int .i64 0, .int .i64 0, .int .i64 0, .int .i64 0]
theorem sltInfo : (Tryz.prog.info? 87).map (fun i => (i.zero, i.size, i.bytes)) = some (some sltZ, 11, 80) := by kernel_rfl
def slp (A : Ar) (k : Nat) : List Value := (List.range' 1 k).flatMap (slotV A)
theorem slp_succ (A : Ar) (k : Nat) : slp A (k + 1) = slp A k ++ slotV A (k + 1) := by
  unfold slp
  rw [List.range'_concat, List.flatMap_append]
  simp [Nat.add_comm]
theorem newc11 (w : World) (xs : Array Value) (t : TypeId) : ∀ j u, xs.toList[j]? = some u → (w.alloc (.cells xs t)).cell? ((⟨w.heap.size, 0, none⟩ : Addr).add j) = some u := by
  intro j u hu
  have e : (⟨w.heap.size, 0, none⟩ : Addr).add j = ⟨w.heap.size, j, none⟩ := by unfold Addr.add; split <;> simp_all
  rw [e, cell_of_row _ _ _ _ _ _ (heap_alloc_new w (.cells xs t))]
  simpa using hu
theorem slotV_ones (A : Ar) (k : Nat) : ∀ u ∈ slotV A k, u.oneCell' = true := by
  intro u hu
  simp [slotV, ndV] at hu
  rcases hu with rfl | rfl | rfl | rfl | rfl | rfl | rfl | rfl | rfl | rfl | rfl <;> rfl
theorem step_append11 {P : Program} {w : World} {ops : Array Oper} {o : Oper} {a : Act} {K : Act → World → Prop} {Q : Exit → Act → World → Prop} {E : Prop} (hgd : o.guard = none) (s x : Operand) (t : TypeId)
    (ho : o.op = .call { callee := .builtin .append, args := #[s, x], argTypes := #[t, t] })
    (base : Nat) (e : TypeId) (i : TypeInfo) (z : Value) (size bytes : Nat) (ht : P.underlying t = some (.slice e)) (hi : P.info? e = some i) (hz : i.zero = some z)
    (hsize : i.size = size) (hby : i.bytes = bytes) (hzs : z.cells.size = size) (hsz : 0 < size)
    (v : Value) (n : Nat) (xs : List Value) (hs : a.eval s = v) (hown : w.ownsRow base e size v n xs)
    (ad : Addr) (m c : Nat) (news : List Value) (hx : a.eval x = .slice (some ad) m c) (hl : news.length = m * size) (hnews : ∀ j u, news[j]? = some u → w.cell? (ad.add j) = some u) (h1 : ∀ u ∈ news, u.oneCell' = true)
    (h63 : n + m ≤ maxLen) (hbytes : (n + m) * bytes ≤ 140737488355328) (hbase : base ≤ w.heap.size)
    (h : ∀ v' w', w'.ownsRow base e size v' (n + m) (xs ++ news) → w.grownBy w' v.ownBlock → K (a.put o.dst v') w') : if Region.wanted o (yielded ops a.tmps) = true then Oper.wp P o a w K Q else E := by
  have hw : Region.wanted o (yielded ops a.tmps) = true := by simp [Region.wanted, hgd]
  rw [if_pos hw]
  exact wp_append_own w s x t ho base e i z size bytes ht hi hz hsize hby hzs hsz v n xs hs hown ad m c news hx hl hnews h1 h63 hbytes hbase fun v' w' h2 h3 _ => h v' w' h2 h3
/-- the description at hand in memory, after k slots -/
structure DmpRel (A : Ar) (B : Nat) (w3 : World) (k : Nat) (x : Value) (wr : World) : Prop where
  val : ∃ a c, x = .slice a k c
  row : wr.ownsRow B 87 11 x k (slp A k)
  below : Below w3.heap.size w3 wr
def ADumpR (w : World) (A : Ar) (e : Ending) (w' : World) : Prop :=
  ∃ a c b d, e = .returned (.agg #[.slice a A.σ.cap c, .slice b A.σ.free.length d]) ∧ w'.ownsRow w.heap.size 87 11 (.slice a A.σ.cap c) A.σ.cap (slotsV A) ∧
      w'.ownsRow w.heap.size 26 1 (.slice b A.σ.free.length d) A.σ.free.length (u32s A.σ.free) ∧ Below w.heap.size w w'
theorem row9n {w : World} {g : Nat} {t : TypeId} {c0 c1 c2 c3 c4 c5 c6 c7 c8 : Value} (h : w.heap[g]? = some (.cells #[c0, c1, c2, c3, c4, c5, c6, c7, c8] t (0, 0))) :
    w.cell? ⟨g, 0, none⟩ = some c0 ∧ w.cell? ⟨g, 1, none⟩ = some c1 ∧ w.cell? ⟨g, 2, none⟩ = some c2 ∧ w.cell? ⟨g, 3, none⟩ = some c3 ∧ w.cell? ⟨g, 4, none⟩ = some c4 ∧ w.cell? ⟨g, 5, none⟩ = some c5 ∧ w.cell? ⟨g, 6, none⟩ = some c6 ∧ w.cell? ⟨g, 7, none⟩ = some c7 ∧ w.cell? ⟨g, 8, none⟩ = some c8 := by
  refine ⟨?_, ?_, ?_, ?_, ?_, ?_, ?_, ?_, ?_⟩ <;> (rw [cell_of_row _ _ _ _ _ _ h]; rfl)
/-- the nine cells of a slot, as an array -/
def celA (A : Ar) (i : Nat) : Array Value := #[.int .i64 (A.nd i).key, .int .i64 (A.nd i).val, .int .u32 ((A.nd i).left : Int), .int .u32 ((A.nd i).right : Int), .int .i64 (A.nd i).size, .int .i64 (A.nd i).sum, .int .i64 (A.nd i).mn, .int .i64 (A.nd i).mx, .int .i64 (A.cnt i)]
section
variable {I : Impl} {w w' wr : World} {ab : Nat} {sp : Addr} {A A' : Ar} {rd : Int} {cc g : Nat} {Fs Fs' : Nat → Prop}
set_option maxHeartbeats 4000000 in
set_option maxRecDepth 100000 in
theorem a_dump (h : LieA I w ab sp A rd (some ⟨g, 0, none⟩) cc Fs) : Calls Tryz.prog 10 #[.pointer (some ⟨ab, 0, none⟩)] w (ADumpR w A) := by
  obtain ⟨i0, hi, hz0, hz1, hz2⟩ := info_parts sltInfo
  have HU : Hid _ := Lib.hid Tryz.underlying33
  have hin : (Tryz.prog.info? 33).map (·.size) = some 2 := by kernel_rfl
  have HIN := Lib.hid hin
  have hcap := h.ok.cap2
  have hci : (A.σ.cap : Int) ≤ 65536 := by omega
  have hci0 : (0 : Int) ≤ (A.σ.cap : Int) := by omega
  have HOK := Lib.hid h.ok
  have hb1 := below_al w (Obj.cells #[Value.slice none 0 0, Value.slice none 0 0] 33)
  have h1 := h.below hb1
  have HP0 := Lib.hid (heap_alloc_new w (Obj.cells #[Value.slice none 0 0, Value.slice none 0 0] 33))
  have HB1 := Lib.hid hb1
  clear h hin hb1
  go_enter Tryz.func10, Tryz.ntmps10
  go_upto_region 1 with fail
  generalize w.alloc (Obj.cells #[Value.slice none 0 0, Value.slice none 0 0] 33) = w1 at h1 HP0 HB1 ⊢
  obtain ⟨p0, hp0⟩ : ∃ p0, w.heap.size = p0 := ⟨_, rfl⟩
  rw [hp0] at HP0 ⊢
  have HPP := Lib.hid hp0
  obtain ⟨c0, c1, c2⟩ := h1.cells
  have H1 := Lib.hid h1
  have hsz1 := HB1.out.size
  have hpl : p0 < w1.heap.size := (Array.getElem?_eq_some_iff.1 HP0.out).1
  rw [hp0] at hsz1
  have HPL := Lib.hid hpl
  clear h1 hp0 hpl
  go_upto_region 2 with (refine wpList_make_own _ rfl (.const (.int .i64 0)) (.tmp 11) 30 rfl w1.heap.size 87 i0 sltZ 11 Tryz.underlying30 hi hz0 hz1 .i64 .i64 (A.σ.cap : Int) A.σ.cap rfl rfl rfl (by rw [hz2]; omega) (by unfold maxLen; omega) (Nat.le_refl _) ?_; intro w2 ho2 hg2)
  have hb2 : Below w1.heap.size w1 w2 := (Below.refl _ _).grown hg2 (Nat.le_refl _) (fun k hk => by cases hk)
  have HREL : Hid (DmpRel A w1.heap.size w1 0 (.slice (some ⟨w1.heap.size, 0, none⟩) 0 A.σ.cap) w2) := ⟨⟨_, _, rfl⟩, ho2, hb2⟩
  have h2 := H1.out.below hb2
  clear c0 c1 c2 ho2 hg2 hb2 hsz1
  obtain ⟨c0, c1, c2⟩ := h2.cells
  clear h2
  go_wp2_with fail
  go_loopg [3, 18] A.σ.cap (fun gk x i wr => ∃ k, k ≤ A.σ.cap ∧ gk = A.σ.cap - k ∧ i = .int .i64 (k : Int) ∧ DmpRel A w1.heap.size w1 k x wr)
  case atStart => exact ⟨0, Nat.zero_le _, rfl, rfl, HREL.out⟩
  case round =>
    clear HREL c0 c1 c2
    obtain ⟨k, hk, hg, rfl, hR⟩ := hrel
    have HG := Lib.hid hg
    obtain ⟨xa, xc, rfl⟩ := hR.val
    have HL := Lib.hid (H1.out.below hR.below)
    have HR := Lib.hid hR
    clear hR hg
    by_cases hlt : k < A.σ.cap
    · have hki : (k : Int) < (A.σ.cap : Int) := by omega
      have hki0 : (0 : Int) ≤ (k : Int) := by omega
      obtain ⟨g0, g1, g2, g3, g4, g5, g6, g7, g8⟩ := HL.out.nine hlt
      have HLT := Lib.hid hlt
      have hal := below_al wr (Obj.cells (celA A (k + 1)) 83)
      have HX := Lib.hid (heap_alloc_new wr (Obj.cells (celA A (k + 1)) 83))
      have HL3 := Lib.hid (HL.out.below hal)
      have HR3 : Hid (DmpRel A w1.heap.size w1 k (.slice xa k xc) (wr.alloc (Obj.cells (celA A (k + 1)) 83))) := ⟨⟨_, _, rfl⟩, row_below HR.out.row hal, HR.out.below.trans (hal.mono HR.out.below.size)⟩
      clear hal hlt
      go_upto_region 5 with fail
      rw [show #[Value.int .i64 (A.nd (k + 1)).key, .int .i64 (A.nd (k + 1)).val, .int .u32 ((A.nd (k + 1)).left : Int), .int .u32 ((A.nd (k + 1)).right : Int), .int .i64 (A.nd (k + 1)).size, .int .i64 (A.nd (k + 1)).sum, .int .i64 (A.nd (k + 1)).mn, .int .i64 (A.nd (k + 1)).mx, .int .i64 (A.cnt (k + 1))] = celA A (k + 1) from rfl]
      clear g0 g1 g2 g3 g4 g5 g6 g7 g8
      generalize wr.alloc (Obj.cells (celA A (k + 1)) 83) = w3 at HX HL3 HR3 ⊢
      have HOWN : Hid (∀ b, (Value.slice xa k xc).ownBlock = some b → b < wr.heap.size) := fun b e => (row_lt HR.out.row b e).2
      generalize wr.heap.size = q at HX HOWN ⊢
      have hx := HX.out
      unfold celA at hx
      obtain ⟨g0, g1, g2, g3, g4, g5, g6, g7, g8⟩ := row9n hx
      obtain ⟨c0, c1, c2⟩ := HL3.out.cells
      have hkw : IntKind.u32.wrap ((k : Int) + 1) = (k : Int) + 1 := by rw [IntKind.wrap_u32']; omega
      have hcalls : ∀ wx : World, Below w3.heap.size w3 wx → Calls Tryz.prog 42 #[.pointer (some sp), .int .u32 ((k : Int) + 1)] wx (Quiet wx (.bool (A.σ.on (k + 1)))) ∧ Calls Tryz.prog 43 #[.pointer (some sp), .int .u32 ((k : Int) + 1)] wx (Quiet wx (.int .u32 (A.σ.gen (k + 1)))) := fun wx hb =>
        ⟨I.allocated _ _ _ (k + 1) _ (I.below HL3.out.slots hb) (by omega), I.generation _ _ _ (k + 1) _ (I.below HL3.out.slots hb) (by omega)⟩
      have HCALLS := Lib.hid hcalls
      have hrow : ∀ wx : World, Below w3.heap.size w3 wx → (wx.alloc (Obj.cells (slotV A (k + 1)).toArray 87)).ownsRow w1.heap.size 87 11 (.slice xa k xc) k (slp A k) := fun wx hb => row_below (row_below HR3.out.row hb) (below_al _ _)
      have HROW := Lib.hid hrow
      have hsz3 : w1.heap.size ≤ w3.heap.size := HR3.out.below.size
      have hafter : ∀ wx w6 : World, Below w3.heap.size w3 wx → (wx.alloc (Obj.cells (slotV A (k + 1)).toArray 87)).grownBy w6 (Value.slice xa k xc).ownBlock → Below w1.heap.size w1 w6 ∧ w6.cell? ⟨ab, 0, none⟩ = some (.pointer (some sp)) ∧ w6.cell? ⟨q, 8, none⟩ = some (.int .i64 (A.cnt (k + 1))) ∧
          w6.cell? ⟨q, 0, none⟩ = some (.int .i64 (A.nd (k + 1)).key) ∧ w6.cell? ⟨q, 1, none⟩ = some (.int .i64 (A.nd (k + 1)).val) ∧ w6.cell? ⟨q, 2, none⟩ = some (.int .u32 ((A.nd (k + 1)).left : Int)) ∧ w6.cell? ⟨q, 3, none⟩ = some (.int .u32 ((A.nd (k + 1)).right : Int)) ∧
          w6.cell? ⟨q, 4, none⟩ = some (.int .i64 (A.nd (k + 1)).size) ∧ w6.cell? ⟨q, 5, none⟩ = some (.int .i64 (A.nd (k + 1)).sum) ∧ w6.cell? ⟨q, 6, none⟩ = some (.int .i64 (A.nd (k + 1)).mn) ∧ w6.cell? ⟨q, 7, none⟩ = some (.int .i64 (A.nd (k + 1)).mx) := fun wx w6 hb hg => by
        have hb2 := trans_of' hb (below_al wx (Obj.cells (slotV A (k + 1)).toArray 87))
        have hown : ∀ b, (Value.slice xa k xc).ownBlock = some b → w1.heap.size ≤ b := fun b e => row_from HR.out.row b e
        have hb1 : Below w1.heap.size w1 (wx.alloc (Obj.cells (slotV A (k + 1)).toArray 87)) := HR3.out.below.trans (hb2.mono HR3.out.below.size)
        have hb6 := hb1.grown hg hb1.size hown
        have hc := (H1.out.below hb6).cells.1
        have hql : q < w3.heap.size := (Array.getElem?_eq_some_iff.1 HX.out).1
        have hq := (hg.block q (Nat.lt_of_lt_of_le hql hb2.size) (fun e => by have := HOWN.out q e.symm; omega)).trans ((hb2.block q hql).trans HX.out)
        unfold celA at hq
        obtain ⟨k0, k1, k2, k3, k4, k5, k6, k7, k8⟩ := row9n hq
        exact ⟨hb6, hc, k8, k0, k1, k2, k3, k4, k5, k6, k7⟩
      have HAFTER := Lib.hid hafter
      clear hx hcalls hrow hafter
      go_upto_region 6 with fail
      go_region_held3 (fun w' => w'.cell? ⟨ab, 0, none⟩ = some (.pointer (some sp)) ∧ w'.cell? ⟨q, 8, none⟩ = some (.int .i64 (A.cnt (k + 1))) ∧
        w'.cell? ⟨q, 0, none⟩ = some (.int .i64 (A.nd (k + 1)).key) ∧ w'.cell? ⟨q, 1, none⟩ = some (.int .i64 (A.nd (k + 1)).val) ∧ w'.cell? ⟨q, 2, none⟩ = some (.int .u32 ((A.nd (k + 1)).left : Int)) ∧ w'.cell? ⟨q, 3, none⟩ = some (.int .u32 ((A.nd (k + 1)).right : Int)) ∧
        w'.cell? ⟨q, 4, none⟩ = some (.int .i64 (A.nd (k + 1)).size) ∧ w'.cell? ⟨q, 5, none⟩ = some (.int .i64 (A.nd (k + 1)).sum) ∧ w'.cell? ⟨q, 6, none⟩ = some (.int .i64 (A.nd (k + 1)).mn) ∧ w'.cell? ⟨q, 7, none⟩ = some (.int .i64 (A.nd (k + 1)).mx)) (go_keep) (first
        | (go_at_call 42; refine (HCALLS.out _ (by exact ⟨rfl, rfl, rfl, Nat.le_refl _, fun _ _ => rfl⟩)).1.mono ?_; rintro e wx ⟨rfl, da, rfl⟩)
        | (go_at_call 43; refine (HCALLS.out _ (by exact ⟨rfl, rfl, rfl, Nat.le_refl _, fun _ _ => rfl⟩)).2.mono ?_; rintro e wx ⟨rfl, db, rfl⟩)
        | (refine step_append11 rfl (.tmp 26) (.tmp 44) 30 rfl w1.heap.size 87 i0 sltZ 11 80 Tryz.underlying30 hi hz0 hz1 hz2 rfl (by decide) _ k (slp A k) rfl (HROW.out _ (by exact ⟨rfl, rfl, rfl, Nat.le_refl _, fun _ _ => rfl⟩)) _ 1 1 (slotV A (k + 1)) rfl rfl (newc11 _ _ _) (slotV_ones A _) (by unfold maxLen; omega) (by omega) (by simp; omega) ?_; intro v6 w6 ho6 hg6; obtain ⟨va, vc, rfl⟩ := row_val ho6; obtain ⟨hb6, s0, s1, s2, s3, s4, s5, s6, s7, s8, s9⟩ := HAFTER.out _ w6 (by exact ⟨rfl, rfl, rfl, Nat.le_refl _, fun _ _ => rfl⟩) hg6))
      all_goals
        have HREL : Hid (DmpRel A w1.heap.size w1 (k + 1) (.slice va (k + 1) vc) w6) := ⟨⟨_, _, rfl⟩, by rw [slp_succ]; exact ho6, hb6⟩
        clear ho6 hg6 hb6 s0 s1 s2 s3 s4 s5 s6 s7 s8 s9 c0 c1 c2 g0 g1 g2 g3 g4 g5 g6 g7 g8
        go_wp2_with fail
        go_roundg (A.σ.cap - (k + 1))
        case measure => have := HG.out; have := HLT.out; omega
        case rel => exact ⟨k + 1, by have := HLT.out; omega, rfl, by go_num, HREL.out⟩
    · have hkc : k = A.σ.cap := by omega
      have hkci : ¬ (k : Int) < (A.σ.cap : Int) := by omega
      have HKC := Lib.hid hkc
      clear hkc hlt
      obtain ⟨c0, c1, c2⟩ := HL.out.cells
      go_wp2_with fail
      refine (I.order _ _ _ _ HL.out.slots).mono ?_
      rintro e w4 ⟨b, dd, rfl, hfr, hb4⟩
      have HFR := Lib.hid hfr
      have HR4 : Hid (DmpRel A w1.heap.size w1 k (.slice xa k xc) w4) := ⟨⟨_, _, rfl⟩, row_below HR.out.row hb4, HR.out.below.trans (hb4.mono HR.out.below.size)⟩
      have HP : Hid (w4.heap[p0]? = some (Obj.cells #[Value.slice none 0 0, Value.slice none 0 0] 33 (0, 0))) := (HR4.out.below.block p0 HPL.out).trans HP0.out
      have hs14 := HR.out.below.size
      clear c0 c1 c2 hfr hb4
      go_wp2_with (refine wpList_store_row rfl 33 (.tmp 2) (.tmp 53) rfl p0 #[.slice xa k xc, .slice b A.σ.free.length dd] rfl rfl 33 _ HP.out HIN.out rfl (by simp [Value.oneCell']) ?_)
      refine bodyPost_ret (v := .agg #[.slice xa k xc, .slice b A.σ.free.length dd]) (results_cell_row rfl _ _ p0 33 _ (0, 0) _ rfl (setRow_heap _ _ _ _ _ _ HP.out) HU.out rfl HIN.out) rfl ?_
      have hrow := HR4.out.row
      rw [HKC.out] at hrow ⊢
      have hpp := HPP.out
      have hpl := HPL.out
      have hbb := HB1.out.trans (HR4.out.below.mono HB1.out.size)
      refine ⟨xa, xc, b, dd, rfl, ?_, ?_, below_row hbb (by omega)⟩
      · refine row_mono (row_keep hrow fun j hj => setRow_other _ _ _ _ ?_) HB1.out.size
        have := row_from hrow j hj; omega
      · refine row_mono (row_keep HFR.out fun j hj => setRow_other _ _ _ _ ?_) (by omega)
        have := row_from HFR.out j hj; omega
end
def IsA (I : Impl) (w : World) (p : Value) (A : Ar) (rd : Int) (F : Nat → Prop) : Prop :=
  ∃ (ab : Nat) (sp : Addr) (g cc : Nat) (Fs : Nat → Prop), p = .pointer (some ⟨ab, 0, none⟩) ∧ LieA I w ab sp A rd (some ⟨g, 0, none⟩) cc Fs ∧ ∀ k, F k ↔ FootA ab (some ⟨g, 0, none⟩) Fs k
def arenaImpl : AImpl where
  Is := IsA slotsImpl
  dom := fun h k hk => by
    obtain ⟨ab, sp, g, cc, Fs, rfl, hl, hF⟩ := h
    exact hl.dom k ((hF k).1 hk)
  keep := fun h hk => by
    obtain ⟨ab, sp, g, cc, Fs, rfl, hl, hF⟩ := h
    exact ⟨ab, sp, g, cc, Fs, rfl, hl.keep fun k h1 => hk k ((hF k).2 h1), hF⟩
  ok := fun h => by
    obtain ⟨ab, sp, g, cc, Fs, rfl, hl, hF⟩ := h
    exact hl.ok
  ptr := fun h => by
    obtain ⟨ab, sp, g, cc, Fs, rfl, hl, hF⟩ := h
    exact ⟨_, rfl⟩
  new_ok := fun n w h1 h2 => (a_new slotsImpl n w h1 h2).mono fun e w1 ⟨ab, sp, g, Fs, he, hl, hf, hb⟩ => ⟨_, FootA ab (some ⟨g, 0, none⟩) Fs, he, ⟨ab, sp, g, n, Fs, rfl, hl, fun k => Iff.rfl⟩, hf, hb⟩
  new_bad := a_new_bad slotsImpl
  make := fun p A rd F key val l r held w h hi ha hm h1 h2 h3 h4 h5 h6 => by
    obtain ⟨ab, sp, g, cc, Fs, rfl, hl, hF⟩ := h
    obtain rfl : F = FootA ab (some ⟨g, 0, none⟩) Fs := funext fun k => propext (hF k)
    refine (a_make hl ha key val l r h5 h6 h3 h4 (fun i hon => cnt_le hi hm hon)).mono ?_
    rintro e w1 ⟨Fs', hal, g1, g2, g3⟩
    refine ⟨FootA ab (some ⟨g, 0, none⟩) Fs', hal, fun hh => ?_, fun hh hf => ?_, fun hh i t hf => ?_⟩
    · exact ⟨(g1 hh).1, ab, sp, g, cc, Fs', rfl, (g1 hh).2, fun k => Iff.rfl⟩
    · exact ⟨(g2 hh hf).1, ab, sp, g, cc, Fs', rfl, (g2 hh hf).2, fun k => Iff.rfl⟩
    · exact ⟨(g3 hh i t hf).1, ab, sp, g, cc, Fs', rfl, (g3 hh i t hf).2, fun k => Iff.rfl⟩
  node := fun p A rd F i w h h0 h1 hi => by
    obtain ⟨ab, sp, g, cc, Fs, rfl, hl, hF⟩ := h
    obtain rfl : F = FootA ab (some ⟨g, 0, none⟩) Fs := funext fun k => propext (hF k)
    refine (a_node hl i hi h0 h1).mono ?_
    rintro e w1 ⟨rfl, h2, hal⟩
    refine ⟨FootA ab (some ⟨g, 0, none⟩) Fs, hal, fun ho => ?_, fun ho => ?_⟩
    · rw [ho, if_neg (by simp)] at h2
      exact ⟨by rw [ho, (hl.off i ho).2]; rfl, ab, sp, g, cc, Fs, rfl, h2, fun k => Iff.rfl⟩
    · rw [if_pos ho] at h2
      exact ⟨by rw [ho]; rfl, ab, sp, g, cc, Fs, rfl, h2, fun k => Iff.rfl⟩
  size := fun p A rd F i w h h0 h1 hi => by
    obtain ⟨ab, sp, g, cc, Fs, rfl, hl, hF⟩ := h
    obtain rfl : F = FootA ab (some ⟨g, 0, none⟩) Fs := funext fun k => propext (hF k)
    refine (a_size hl i hi h0 h1).mono ?_
    rintro e w1 ⟨rfl, h2, hal⟩
    refine ⟨FootA ab (some ⟨g, 0, none⟩) Fs, hal, fun ho => ?_, fun ho => ?_⟩
    · rw [ho, if_neg (by simp)] at h2
      exact ⟨by rw [(hl.off i ho).2]; rfl, ab, sp, g, cc, Fs, rfl, h2, fun k => Iff.rfl⟩
    · rw [if_pos ho] at h2
      exact ⟨rfl, ab, sp, g, cc, Fs, rfl, h2, fun k => Iff.rfl⟩
  retain := fun p A rd F i w h hi hc => by
    obtain ⟨ab, sp, g, cc, Fs, rfl, hl, hF⟩ := h
    obtain rfl : F = FootA ab (some ⟨g, 0, none⟩) Fs := funext fun k => propext (hF k)
    by_cases hx : A.Idx i
    · refine (a_retain hl i hi hx hc).mono ?_
      rintro e w1 ⟨rfl, h2, hal⟩
      exact ⟨FootA ab (some ⟨g, 0, none⟩) Fs, hal, fun h => absurd hx h, fun _ => ⟨rfl, ab, sp, g, cc, Fs, rfl, h2, fun k => Iff.rfl⟩⟩
    · refine (a_retain_bad hl i hi hx).mono ?_
      rintro e w1 ⟨rfl, hb⟩
      exact ⟨FootA ab (some ⟨g, 0, none⟩) Fs, .of_below hb, fun _ => ⟨rfl, ab, sp, g, cc, Fs, rfl, hl.below hb, fun k => Iff.rfl⟩, fun h => absurd h hx⟩
  release := fun p A rd F i held w h hi hinv => by
    obtain ⟨ab, sp, g, cc, Fs, rfl, hl, hF⟩ := h
    obtain rfl : F = FootA ab (some ⟨g, 0, none⟩) Fs := funext fun k => propext (hF k)
    by_cases hx : A.Idx i
    · refine (a_release hl i hi hx (hinv hx)).mono ?_
      rintro e w1 ⟨Fs', hal, rfl, h2⟩
      exact ⟨FootA ab (some ⟨g, 0, none⟩) Fs', hal, fun h => absurd hx h, fun _ => ⟨rfl, ab, sp, g, cc, Fs', rfl, h2, fun k => Iff.rfl⟩⟩
    · refine (a_release_bad hl i hi hx).mono ?_
      rintro e w1 ⟨rfl, hb⟩
      exact ⟨FootA ab (some ⟨g, 0, none⟩) Fs, .of_below hb, fun _ => ⟨rfl, ab, sp, g, cc, Fs, rfl, hl.below hb, fun k => Iff.rfl⟩, fun h => absurd h hx⟩
  freeN := fun p A rd F w h => by
    obtain ⟨ab, sp, g, cc, Fs, rfl, hl, hF⟩ := h
    exact a_free hl
  capacity := fun p A rd F w h => by
    obtain ⟨ab, sp, g, cc, Fs, rfl, hl, hF⟩ := h
    exact a_capacity hl
  reads := fun p A rd F w h => by
    obtain ⟨ab, sp, g, cc, Fs, rfl, hl, hF⟩ := h
    exact a_reads hl
  dump := fun p A rd F w h => by
    obtain ⟨ab, sp, g, cc, Fs, rfl, hl, hF⟩ := h
    exact a_dump hl
end Go.Proofs.YtfihklpofmcfgaaGreat
set_option linter.unusedSimpArgs false
namespace Go.Proofs.YtfihklpofmcfgaaGreat
open Go.RowKit
structure En where
  key : Int
  val : Int
  deriving DecidableEq
def enV (e : En) : List Value := [.int .i64 e.key, .int .i64 e.val]
def ensV (l : List En) : List Value := l.flatMap enV
theorem ensV_snoc (l : List En) (e : En) : ensV (l ++ [e]) = ensV l ++ enV e := by simp [ensV]
theorem ensV_len (l : List En) : (ensV l).length = l.length * 2 := by
  induction l with
  | nil => rfl
  | cons a t ih => simp only [ensV, List.flatMap_cons, List.length_append, List.length_cons] at ih ⊢; rw [ih]; simp [enV]; omega
theorem ensV_at : ∀ (l : List En) (i j : Nat) (e : En), l[i]? = some e → j < 2 → (ensV l)[i * 2 + j]? = (enV e)[j]?
  | [], i, j, e, h, hj => by simp at h
  | a :: t, 0, j, e, h, hj => by
    simp at h; subst h
    show (enV a ++ ensV t)[0 * 2 + j]? = _
    rw [Nat.zero_mul, Nat.zero_add, List.getElem?_append_left (by exact hj)]
  | a :: t, i + 1, j, e, h, hj => by
    simp at h
    show (enV a ++ ensV t)[(i + 1) * 2 + j]? = _
    rw [List.getElem?_append_right (by show 2 ≤ _; omega), show (i + 1) * 2 + j - (enV a).length = i * 2 + j by show (i + 1) * 2 + j - 2 = _; omega]
    exact ensV_at t i j e h hj
def i64R (x : Int) : Prop := -9223372036854775808 ≤ x ∧ x ≤ 9223372036854775807
/-- a slice of entries, read -/
structure EnsAt (w : World) (a : Option Addr) (l : List En) : Prop where
  cell : ∀ j e, l[j]? = some e → ∃ b off, a = some ⟨b, off, none⟩ ∧ b < w.heap.size ∧ w.cell? ⟨b, off + j * 2, none⟩ = some (.int .i64 e.key) ∧ w.cell? ⟨b, off + j * 2 + 1, none⟩ = some (.int .i64 e.val)
  wf : ∀ e ∈ l, i64R e.key ∧ i64R e.val
theorem EnsAt.below {w w' : World} {a : Option Addr} {l : List En} (h : EnsAt w a l) (hb : Below w.heap.size w w') : EnsAt w' a l := by
  refine ⟨fun j e he => ?_, h.wf⟩
  obtain ⟨b, off, ha, hlt, h1, h2⟩ := h.cell j e he
  exact ⟨b, off, ha, Nat.lt_of_lt_of_le hlt hb.size, by rw [← h1]; exact hb.cell (p := ⟨b, off + j * 2, none⟩) hlt, by rw [← h2]; exact hb.cell (p := ⟨b, off + j * 2 + 1, none⟩) hlt⟩
theorem EnsAt.nil (w : World) (a : Option Addr) : EnsAt w a [] := ⟨fun j e he => by simp at he, fun e he => by cases he⟩
theorem ens_at {w : World} {B c : Nat} {a : Option Addr} {l : List En} (h : w.ownsRow B 69 2 (.slice a l.length c) l.length (ensV l)) (hw : ∀ e ∈ l, i64R e.key ∧ i64R e.val) : EnsAt w a l := by
  refine ⟨fun j e he => ?_, hw⟩
  have hj : j < l.length := (List.getElem?_eq_some_iff.1 he).1
  rcases h.2 with ⟨hv, hn⟩ | ⟨g, cap, cur, hv, hB, hc, hn, hcm, hs, ht⟩
  · omega
  · simp only [Value.slice.injEq] at hv
    obtain ⟨rfl, _, _⟩ := hv
    refine ⟨g, 0, rfl, (Array.getElem?_eq_some_iff.1 hc).1, ?_, ?_⟩
    · rw [Nat.zero_add, h.cellAt (j * 2) (by omega), show j * 2 = j * 2 + 0 from rfl, ensV_at l j 0 e he (by omega)]; rfl
    · rw [Nat.zero_add, h.cellAt (j * 2 + 1) (by omega), ensV_at l j 1 e he (by omega)]; rfl
theorem ens_row {w : World} {B n c : Nat} {a : Option Addr} {l : List En} (hn : l.length = n) (h : w.ownsRow B 69 2 (.slice a n c) n (ensV l)) (hw : ∀ e ∈ l, i64R e.key ∧ i64R e.val) : EnsAt w a l := by
  subst hn
  exact ens_at h hw
def insF (e : En) : List En → Bool → List En
  | [], d => if d then [] else [e]
  | x :: t, d => (if (!d && decide (e.key ≤ x.key)) = true then [e] else []) ++ (if x.key ≠ e.key then [x] else []) ++ insF e t (d || (!d && decide (e.key ≤ x.key)))
def insE (l : List En) (e : En) : List En := insF e l false
def listE (l : List En) (k : Nat) : List En := (l.take k).foldl insE []
def Up (l : List En) : Prop := l.Pairwise (fun x y => x.key < y.key)
theorem insF_true (e : En) : ∀ t : List En, insF e t true = t.filter fun x => decide (x.key ≠ e.key)
  | [] => rfl
  | x :: t => by
    unfold insF
    rw [show (true || (!true && decide (e.key ≤ x.key))) = true from rfl, insF_true e t]
    by_cases h : x.key = e.key <;> simp [h]
theorem insF_mem (e : En) : ∀ (l : List En) (d : Bool) (y : En), y ∈ insF e l d → y ∈ l ∨ y = e
  | [], d, y, h => by
    unfold insF at h
    cases d <;> simp at h
    exact .inr h
  | x :: t, d, y, h => by
    unfold insF at h
    rcases List.mem_append.1 h with h | h
    · rcases List.mem_append.1 h with h | h
      · split at h
        · simp at h; exact .inr h
        · cases h
      · split at h
        · simp at h; exact .inl (by simp [h])
        · cases h
    · rcases insF_mem e t _ y h with h | h
      · exact .inl (by simp [h])
      · exact .inr h
theorem insF_up (e : En) : ∀ (l : List En), Up l → Up (insF e l false)
  | [], h => by unfold insF; simp [Up]
  | x :: t, h => by
    unfold Up at h
    rw [List.pairwise_cons] at h
    unfold insF
    by_cases hx : e.key ≤ x.key
    · have e1 : (!false && decide (e.key ≤ x.key)) = true := by simp [hx]
      rw [if_pos e1, show (false || (!false && decide (e.key ≤ x.key))) = true by simp [hx], insF_true]
      have hf : Up (t.filter fun x => decide (x.key ≠ e.key)) := h.2.filter _
      have hm : ∀ y ∈ t.filter (fun x => decide (x.key ≠ e.key)), x.key < y.key := fun y hy => h.1 y (List.mem_filter.1 hy).1
      by_cases hne : x.key ≠ e.key
      · rw [if_pos hne]
        show Up (e :: x :: t.filter _)
        unfold Up
        rw [List.pairwise_cons, List.pairwise_cons]
        refine ⟨fun y hy => ?_, hm, hf⟩
        rcases List.mem_cons.1 hy with rfl | hy
        · omega
        · have := hm y hy; omega
      · rw [if_neg hne]
        show Up (e :: t.filter _)
        unfold Up
        rw [List.pairwise_cons]
        exact ⟨fun y hy => by have := hm y hy; omega, hf⟩
    · have e1 : ¬ (!false && decide (e.key ≤ x.key)) = true := by simp [hx]
      rw [if_neg e1, show (false || (!false && decide (e.key ≤ x.key))) = false by simp [hx], if_pos (show x.key ≠ e.key by omega)]
      show Up (x :: insF e t false)
      unfold Up
      rw [List.pairwise_cons]
      refine ⟨fun y hy => ?_, insF_up e t h.2⟩
      rcases insF_mem e t false y hy with h1 | rfl
      · exact h.1 y h1
      · omega
theorem insF_len (e : En) : ∀ (l : List En) (d : Bool), (insF e l d).length ≤ l.length + (if d then 0 else 1)
  | [], d => by unfold insF; cases d <;> simp
  | x :: t, d => by
    unfold insF
    have h := insF_len e t (d || (!d && decide (e.key ≤ x.key)))
    cases d
    · by_cases hx : e.key ≤ x.key
      · simp [hx] at h ⊢
        split <;> simp <;> omega
      · simp [hx] at h ⊢
        split <;> simp <;> omega
    · simp at h ⊢
      split <;> simp <;> omega
theorem insE_up {l : List En} (e : En) (h : Up l) : Up (insE l e) := insF_up e l h
theorem insE_mem {l : List En} {e y : En} (h : y ∈ insE l e) : y ∈ l ∨ y = e := insF_mem e l false y h
theorem insE_len (l : List En) (e : En) : (insE l e).length ≤ l.length + 1 := by have h := insF_len e l false; unfold insE; simp at h; omega
theorem foldl_up : ∀ (l acc : List En), Up acc → Up (l.foldl insE acc)
  | [], acc, h => h
  | x :: t, acc, h => foldl_up t _ (insE_up x h)
theorem foldl_len : ∀ (l acc : List En), (l.foldl insE acc).length ≤ acc.length + l.length
  | [], acc => by simp
  | x :: t, acc => by
    have h1 := foldl_len t (insE acc x)
    have h2 := insE_len acc x
    simp only [List.foldl_cons, List.length_cons]
    omega
theorem foldl_mem : ∀ (l acc : List En) (y : En), y ∈ l.foldl insE acc → y ∈ acc ∨ y ∈ l
  | [], acc, y, h => .inl h
  | x :: t, acc, y, h => by
    rcases foldl_mem t _ y h with h1 | h1
    · rcases insE_mem h1 with h2 | h2
      · exact .inl h2
      · exact .inr (by simp [h2])
    · exact .inr (by simp [h1])
theorem listE_up (l : List En) (k : Nat) : Up (listE l k) := foldl_up _ _ List.Pairwise.nil
theorem listE_len (l : List En) (k : Nat) : (listE l k).length ≤ k := by have h := foldl_len (l.take k) []; have h2 := List.length_take_le k l; unfold listE; simp at h; omega
theorem listE_mem {l : List En} {k : Nat} {y : En} (h : y ∈ listE l k) : y ∈ l := by
  rcases foldl_mem _ _ y h with h1 | h1
  · cases h1
  · exact List.mem_of_mem_take h1
theorem listE_succ {l : List En} {k : Nat} (h : k < l.length) : listE l (k + 1) = insE (listE l k) l[k] := by
  unfold listE
  rw [List.take_succ_eq_append_getElem h, List.foldl_append]
  rfl
theorem enInfo : (Tryz.prog.info? 69).map (fun i => (i.zero, i.size, i.bytes)) = some (some (.agg #[.int .i64 0, .int .i64 0]), 2, 16) := by kernel_rfl
structure ESt (Z : Nat) (w2 : World) (l : List En) (v : Value) (wr : World) : Prop where
  val : ∃ a c, v = .slice a l.length c
  row : wr.ownsRow Z 69 2 v l.length (ensV l)
  below : Below Z w2 wr
section
variable {Z : Nat} {w2 wr w' : World} {l : List En} {v v' : Value}
theorem ESt.from (h : ESt Z w2 l v wr) (hb : Below wr.heap.size wr w') (hZ : w2.heap.size = Z) : ESt Z w2 l v w' :=
  ⟨h.val, row_below h.row hb, h.below.trans (hb.mono (by have := h.below.size; omega))⟩
theorem ESt.start (w2 : World) (hZ : w2.heap.size = Z) : ESt Z w2 [] (.slice none 0 0) w2 := ⟨⟨none, 0, rfl⟩, World.ownsRow_nil _ _ _ _, Below.refl _ _⟩
theorem cell_newE (w : World) (e : En) (t : TypeId) : ∀ j v, (enV e)[j]? = some v → (w.alloc (.cells #[.int .i64 e.key, .int .i64 e.val] t)).cell? ((⟨w.heap.size, 0, none⟩ : Addr).add j) = some v := by
  intro j v hu
  match j, hu with
  | 0, hu => simp [enV] at hu; subst hu; simp [Addr.add]
  | 1, hu => simp [enV] at hu; subst hu; simp [Addr.add]
theorem en_one (e : En) : ∀ u ∈ enV e, u.oneCell' = true := by
  intro u hu
  simp [enV] at hu
  rcases hu with rfl | rfl <;> rfl
theorem wpList_append_en {ops : Array Oper} {rest : List Oper} {o : Oper} {a : Act} {w : World} {Q : Exit → Act → World → Prop} (hgd : o.guard = none) (s x : Operand)
    (ho : o.op = .call { callee := .builtin .append, args := #[s, x], argTypes := #[22, 22] })
    (hc : ESt Z w2 l v w) (hZ : w2.heap.size = Z) (hs : a.eval s = v) (e : En) (g : Nat) (hx : a.eval x = .slice (some ⟨g, 0, none⟩) 1 1)
    (hn : ∀ j u, (enV e)[j]? = some u → w.cell? ((⟨g, 0, none⟩ : Addr).add j) = some u) (hl : l.length ≤ 100000000)
    (h : ∀ v' w', ESt Z w2 (l ++ [e]) v' w' → wpList Tryz.prog ops Q rest (a.put o.dst v') w') : wpList Tryz.prog ops Q (o :: rest) a w := by
  obtain ⟨i, ji, jz0, jz1, jz2⟩ := info_parts enInfo
  refine wpList_append_own _ hgd s x 22 ho Z 69 i (.agg #[.int .i64 0, .int .i64 0]) 2 16 Tryz.underlying22 ji jz0 jz1 jz2 rfl (by decide) v l.length (ensV l) hs hc.row ⟨g, 0, none⟩ 1 1 (enV e) hx rfl hn (en_one e) (by unfold maxLen; omega) (by omega) (by have := hc.below.size; omega) ?_
  intro v' w' ho' hg _
  refine h v' w' ?_
  obtain ⟨a', c', hv⟩ := row_val ho'
  refine ⟨⟨a', c', by rw [List.length_append]; exact hv⟩, ?_, hc.below.grown hg (by have := hc.below.size; omega) (row_from hc.row)⟩
  rw [List.length_append, ensV_snoc]
  exact ho'
end
def MadeEns (w : World) (l : List En) (e : Ending) (w' : World) : Prop :=
  ∃ a c, e = .returned (.slice a l.length c) ∧ w'.ownsRow w.heap.size 69 2 (.slice a l.length c) l.length (ensV l) ∧ Below w.heap.size w w'
theorem made_ens {w w' : World} {l : List En} {e : Ending} (h : MadeEns w l e w') (hw : ∀ e ∈ l, i64R e.key ∧ i64R e.val) {N : Nat} (hN : l.length = N) : ∃ a c, e = .returned (.slice a N c) ∧ EnsAt w' a l ∧ Below w.heap.size w w' := by
  subst hN
  obtain ⟨a, c, h1, h2, h3⟩ := h
  exact ⟨a, c, h1, ens_at h2 hw, h3⟩
def rankE (l : List En) (k : Int) : Nat := l.countP fun e => decide (e.key < k)
def getE (l : List En) (k : Int) : Option En := l.find? fun e => decide (e.key = k)
def selE (l : List En) (i : Int) : Option En := if 0 ≤ i then l[i.toNat]? else none
def floorE (l : List En) (k : Int) : Option En := if (getE l k).isSome then selE l (rankE l k) else selE l ((rankE l k : Int) - 1)
def ceilE (l : List En) (k : Int) : Option En := selE l (rankE l k)
def belowE (l : List En) (k : Int) : Option En := selE l ((rankE l k : Int) - 1)
/-- the cells of an entry, of none zeros -/
def enA (o : Option En) : Array Value := #[.int .i64 (o.elim 0 (·.key)), .int .i64 (o.elim 0 (·.val))]
theorem rankE_le (l : List En) (k : Int) : rankE l k ≤ l.length := List.countP_le_length
theorem getE_step {l : List En} {j : Nat} {e : En} (h : l[j]? = some e) (k : Int) : getE (l.drop j) k = if e.key = k then some e else getE (l.drop (j + 1)) k := by
  obtain ⟨hj, he⟩ := List.getElem?_eq_some_iff.1 h
  unfold getE
  rw [List.drop_eq_getElem_cons hj, he, List.find?_cons]
  by_cases hk : e.key = k <;> simp [hk]
theorem below_newL (w : World) (o : Obj) : Below w.heap.size w (w.alloc o) := (Below.refl _ _).alloc (Nat.le_refl _) _
theorem EnsAt.at {w : World} {a : Option Addr} {l : List En} {j : Nat} {e : En} (h : EnsAt w a l) (he : l[j]? = some e) : ∃ b off, a = some ⟨b, off, none⟩ ∧ b < w.heap.size ∧ w.cell? ⟨b, off + j * 2, none⟩ = some (.int .i64 e.key) ∧ w.cell? ⟨b, off + j * 2 + 1, none⟩ = some (.int .i64 e.val) := h.cell j e he
set_option maxHeartbeats 1000000 in
set_option maxRecDepth 100000 in
theorem get_any {w : World} {a : Option Addr} {n c : Nat} {l : List En} (k : Int) (h : EnsAt w a l) (hn : l.length = n) (hl : n ≤ 1000000) :
    Calls Tryz.prog 55 #[.slice a n c, .int .i64 k] w fun e w' => e = .returned (.tuple #[.int .i64 ((getE l k).elim 0 (·.val)), .bool (getE l k).isSome]) ∧ w' = w := by
  have HE := Lib.hid h
  have HN := Lib.hid hn
  have hni : (n : Int) ≤ 1000000 := by omega
  clear h hn hl
  go_enter Tryz.func55, Tryz.ntmps55
  go_wp2_with fail
  go_loopw [6] (fun i wr => ∃ j : Nat, i = .int .i64 (j : Int) ∧ getE (l.drop j) k = getE l k ∧ j ≤ n ∧ wr = w) (fun i _ => n - (intOf i).toNat)
  case atStart => exact ⟨0, rfl, rfl, Nat.zero_le _, rfl⟩
  case round =>
    obtain ⟨j, rfl, hg, hj, rfl⟩ := hrel
    have HG := Lib.hid hg
    have HJ := Lib.hid hj
    have hj0 : (0 : Int) ≤ (j : Int) := by omega
    by_cases hlt : j < n
    · have hji : (j : Int) < (n : Int) := by omega
      obtain ⟨e, he⟩ : ∃ e, l[j]? = some e := ⟨_, List.getElem?_eq_getElem (by have := HN.out; omega)⟩
      obtain ⟨b, off, rfl, hb, c0, c1⟩ := HE.out.at he
      have hs := getE_step he k
      have HS := Lib.hid hs
      have HLT := Lib.hid hlt
      by_cases hk : e.key = k
      · have hkd : (e.key == k) = true := by simp; exact hk
        have HK : Hid (getE l k = some e) := by show _ = _; rw [← HG.out, HS.out, if_pos hk]
        clear hj hlt hs he hk hb hg
        go_wp2_with fail
        go_ret2
        exact ⟨by rw [HK.out]; rfl, rfl⟩
      · have hkd : (e.key == k) = false := by simp; exact hk
        have HK : Hid (getE (l.drop (j + 1)) k = getE l k) := by show _ = _; rw [← HG.out, HS.out, if_neg hk]
        clear hj hlt hs he hk hb c1 hg
        go_wp2_with fail
        exact ⟨⟨j + 1, by go_num, HK.out, by have := HLT.out; omega, trivial⟩, by have := HLT.out; simp [intOf]; omega⟩
    · have hji : ¬ (j : Int) < (n : Int) := by omega
      have HK : Hid (getE l k = none) := by show _ = _; rw [← HG.out, List.drop_of_length_le (by have := HN.out; omega)]; rfl
      clear hj hlt hg
      go_wp2_with fail
      go_ret2
      exact ⟨by rw [HK.out]; rfl, rfl⟩
theorem two_ofE {w : World} {g : Nat} {x y : Int} {ty : TypeId} (h : w.heap[g]? = some (.cells #[.int .i64 x, .int .i64 y] ty (0, 0))) : w.cell? ⟨g, 0, none⟩ = some (.int .i64 x) ∧ w.cell? ⟨g, 1, none⟩ = some (.int .i64 y) := by
  constructor <;> (rw [cell_of_row _ _ _ _ _ _ h]; rfl)
theorem filt_succ {l : List En} {j : Nat} {e : En} (h : l[j]? = some e) (p : En → Bool) : (l.take (j + 1)).filter p = (l.take j).filter p ++ (if p e = true then [e] else []) := by
  obtain ⟨hj, he⟩ := List.getElem?_eq_some_iff.1 h
  rw [List.take_succ_eq_append_getElem hj, List.filter_append, he]
  congr 1
  cases hp : p e <;> simp [hp]
/-- a row of entries while it is gathered -/
def SubRel (w : World) (g : Nat → List En) (n : Nat) (x i : Value) (wr : World) : Prop :=
  ∃ j : Nat, i = .int .i64 (j : Int) ∧ j ≤ n ∧ ESt w.heap.size w (g j) x wr
theorem SubRel.start (w : World) (g : Nat → List En) (n : Nat) (hg : g 0 = []) : SubRel w g n (.slice none 0 0) (.int .i64 0) w := ⟨0, rfl, Nat.zero_le _, by rw [hg]; exact ESt.start w rfl⟩
theorem ESt.made {w w' : World} {l : List En} {v : Value} (h : ESt w.heap.size w l v w') : MadeEns w l (.returned v) w' := by
  obtain ⟨a, c, rfl⟩ := h.val
  exact ⟨a, c, rfl, h.row, h.below⟩
theorem ensV_app (l m : List En) : ensV (l ++ m) = ensV l ++ ensV m := by simp [ensV]
theorem ensV_ones (l : List En) : ∀ u ∈ ensV l, u.oneCell' = true := by
  intro u hu
  obtain ⟨e, he, h⟩ := List.mem_flatMap.1 hu
  exact en_one e u h
theorem add_atE (b off j : Nat) : (⟨b, off, none⟩ : Addr).add j = ⟨b, off + j, none⟩ := by simp [Addr.add]
section
variable {Z : Nat} {w2 w w' : World} {l : List En} {v v' : Value}
theorem step_append_en {ops : Array Oper} {o : Oper} {a : Act} {K : Act → World → Prop} {Q : Exit → Act → World → Prop} {E : Prop} (hgd : o.guard = none) (s x : Operand)
    (ho : o.op = .call { callee := .builtin .append, args := #[s, x], argTypes := #[22, 22] })
    (hc : ESt Z w2 l v w) (hZ : w2.heap.size = Z) (hs : a.eval s = v) (e : En) (g : Nat) (hx : a.eval x = .slice (some ⟨g, 0, none⟩) 1 1)
    (hn : ∀ j u, (enV e)[j]? = some u → w.cell? ((⟨g, 0, none⟩ : Addr).add j) = some u) (hl : l.length ≤ 100000000)
    (h : ∀ v' w', ESt Z w2 (l ++ [e]) v' w' → w.grownBy w' v.ownBlock → K (a.put o.dst v') w') : if Region.wanted o (yielded ops a.tmps) = true then Oper.wp Tryz.prog o a w K Q else E := by
  have hw : Region.wanted o (yielded ops a.tmps) = true := by simp [Region.wanted, hgd]
  rw [if_pos hw]
  obtain ⟨i, ji, jz0, jz1, jz2⟩ := info_parts enInfo
  refine wp_append_own w s x 22 ho Z 69 i (.agg #[.int .i64 0, .int .i64 0]) 2 16 Tryz.underlying22 ji jz0 jz1 jz2 rfl (by decide) v l.length (ensV l) hs hc.row ⟨g, 0, none⟩ 1 1 (enV e) hx rfl hn (en_one e) (by unfold maxLen; omega) (by omega) (by have := hc.below.size; omega) ?_
  intro v' w' ho' hg _
  refine h v' w' ?_ hg
  obtain ⟨a', c', hv⟩ := row_val ho'
  refine ⟨⟨a', c', by rw [List.length_append]; exact hv⟩, ?_, hc.below.grown hg (by have := hc.below.size; omega) (row_from hc.row)⟩
  rw [List.length_append, ensV_snoc]
  exact ho'
end
/-- append of a row of entries to a row of the call's own -/
theorem wpList_append_rowE {ops : Array Oper} {rest : List Oper} {o : Oper} {a : Act} {w w2 : World} {Q : Exit → Act → World → Prop} {Z B : Nat} {l0 l : List En} {v : Value} (hgd : o.guard = none) (s x : Operand)
    (ho : o.op = .call { callee := .builtin .append, args := #[s, x], argTypes := #[22, 22] })
    (hc : ESt Z w2 l0 v w) (hZ : w2.heap.size = Z) (hs : a.eval s = v) (ad : Option Addr) (c m : Nat) (hm : l.length = m) (hx : a.eval x = .slice ad m c) (hrow : w.ownsRow B 69 2 (.slice ad m c) m (ensV l)) (hl : l0.length + m ≤ 100000000)
    (h : ∀ v' w', ESt Z w2 (l0 ++ l) v' w' → wpList Tryz.prog ops Q rest (a.put o.dst v') w') : wpList Tryz.prog ops Q (o :: rest) a w := by
  obtain ⟨i, ji, jz0, jz1, jz2⟩ := info_parts enInfo
  subst hm
  rcases hrow.2 with ⟨hv, hn⟩ | ⟨g, cap, cur, hv, hB, hcc, hn, hcm, hss, htt⟩
  · have hl0 : l = [] := List.eq_nil_of_length_eq_zero (by omega)
    rw [hv] at hx
    refine wpList_append_own_none hgd s x 22 ho Z 69 i 2 Tryz.underlying22 ji v l0.length (ensV l0) hs hc.row hx ?_
    exact h v w (by rw [hl0, List.append_nil]; exact hc)
  · simp only [Value.slice.injEq] at hv
    obtain ⟨rfl, _, _⟩ := hv
    refine wpList_append_own _ hgd s x 22 ho Z 69 i (.agg #[.int .i64 0, .int .i64 0]) 2 16 Tryz.underlying22 ji jz0 jz1 jz2 rfl (by decide) v l0.length (ensV l0) hs hc.row ⟨g, 0, none⟩ l.length c (ensV l) hx (ensV_len l) (fun j u hu => ?_) (ensV_ones l) (by unfold maxLen; omega) (by omega) (by have := hc.below.size; omega) ?_
    · have hj : j < l.length * 2 := by have := (List.getElem?_eq_some_iff.1 hu).1; rwa [ensV_len] at this
      rw [add_atE, Nat.zero_add, hrow.cellAt j hj, hu]
    · intro v' w' ho' hg _
      refine h v' w' ?_
      obtain ⟨a', c', hv⟩ := row_val ho'
      refine ⟨⟨a', c', by rw [List.length_append]; exact hv⟩, ?_, hc.below.grown hg (by have := hc.below.size; omega) (row_from hc.row)⟩
      rw [List.length_append, ensV_app]
      exact ho'
theorem below_alT {w0 w : World} (h : Below w0.heap.size w0 w) (o : Obj) : Below w0.heap.size w0 (w.alloc o) := h.trans ((below_newL w o).mono h.size)
def outE (l : List En) (lo hi : Int) : List En := l.filter fun e => decide (e.key < lo ∨ hi < e.key)
set_option maxHeartbeats 2000000 in
set_option maxRecDepth 100000 in
theorem outside_any {w : World} {a : Option Addr} {n c : Nat} {l : List En} (lo hi : Int) (h : EnsAt w a l) (hn : l.length = n) (hl : n ≤ 1000000) :
    Calls Tryz.prog 71 #[.slice a n c, .int .i64 lo, .int .i64 hi] w (MadeEns w (outE l lo hi)) := by
  have HE := Lib.hid h
  have HN := Lib.hid hn
  have hni : (n : Int) ≤ 1000000 := by omega
  have HL := Lib.hid hl
  have HLEN : Hid (∀ j, (outE (l.take j) lo hi).length ≤ 1000000) := fun j => by
    have h1 := List.length_filter_le (fun e : En => decide (e.key < lo ∨ hi < e.key)) (l.take j)
    have h2 := List.length_take_le' j l
    show ((l.take j).filter _).length ≤ _
    omega
  have HS : Hid (∀ j e, l[j]? = some e → outE (l.take (j + 1)) lo hi = outE (l.take j) lo hi ++ (if e.key < lo ∨ hi < e.key then [e] else [])) := fun j e he => by
    have := filt_succ he fun e : En => decide (e.key < lo ∨ hi < e.key)
    simp only [decide_eq_true_eq] at this
    exact this
  have HLENB : Hid (∀ j, (outE (l.take j) lo hi).length ≤ 100000000) := fun j => Nat.le_trans (HLEN.out j) (by decide)
  have HR0 := Lib.hid (SubRel.start w (fun j => outE (l.take j) lo hi) n (by simp [outE]))
  clear h hn hl
  go_enter Tryz.func71, Tryz.ntmps71
  go_wp2_with fail
  go_loopw [7, 8] (fun x i wr => SubRel w (fun j => outE (l.take j) lo hi) n x i wr) (fun _ i _ => n - (intOf i).toNat)
  case atStart => exact HR0.out
  case round =>
    clear HR0
    obtain ⟨j, rfl, hj, hst⟩ := hrel
    replace hst : ESt w.heap.size w (outE (l.take j) lo hi) _ wr := hst
    have HST := Lib.hid hst
    have hj0 : (0 : Int) ≤ (j : Int) := by omega
    obtain ⟨xa, xc, rfl⟩ := hst.val
    clear hst
    by_cases hlt : j < n
    · have hji : (j : Int) < (n : Int) := by omega
      obtain ⟨e, he⟩ : ∃ e, l[j]? = some e := ⟨_, List.getElem?_eq_getElem (by have := HN.out; omega)⟩
      obtain ⟨b, off, rfl, hb, c0, c1⟩ := (HE.out.below HST.out.below).at he
      have hs := HS.out j e he
      have HX := Lib.hid hs
      have HLT := Lib.hid hlt
      clear hs he hb hlt hj
      by_cases h1 : e.key < lo
      · have d1 : decide (e.key < lo) = true := decide_eq_true h1
        have HY : Hid (outE (l.take (j + 1)) lo hi = outE (l.take j) lo hi ++ [e]) := by show _ = _; rw [HX.out, if_pos (.inl h1)]
        clear h1
        go_wp2_with (at_builtin; refine wpList_append_en rfl (.tmp 31) (.tmp 36) rfl (HST.out.from (below_newL _ _) rfl) rfl rfl e wr.heap.size rfl (cell_newE _ _ _) (HLENB.out j) ?_; intro v5 w5 hc5)
        exact ⟨⟨j + 1, by go_num, by have := HLT.out; omega, by show ESt _ _ (outE (l.take (j + 1)) lo hi) _ _; rw [HY.out]; exact hc5⟩, by have := HLT.out; simp [intOf]; omega⟩
      · have d1 : decide (e.key < lo) = false := decide_eq_false h1
        by_cases h2 : hi < e.key
        · have d2 : decide (e.key > hi) = true := decide_eq_true h2
          have d3 : decide (hi < e.key) = true := decide_eq_true h2
          have HY : Hid (outE (l.take (j + 1)) lo hi = outE (l.take j) lo hi ++ [e]) := by show _ = _; rw [HX.out, if_pos (.inr h2)]
          clear h1 h2
          go_wp2_with (at_builtin; refine wpList_append_en rfl (.tmp 31) (.tmp 36) rfl (HST.out.from (below_newL _ _) rfl) rfl rfl e wr.heap.size rfl (cell_newE _ _ _) (HLENB.out j) ?_; intro v5 w5 hc5)
          exact ⟨⟨j + 1, by go_num, by have := HLT.out; omega, by show ESt _ _ (outE (l.take (j + 1)) lo hi) _ _; rw [HY.out]; exact hc5⟩, by have := HLT.out; simp [intOf]; omega⟩
        · have d2 : decide (e.key > hi) = false := decide_eq_false h2
          have d3 : decide (hi < e.key) = false := decide_eq_false h2
          have HY : Hid (outE (l.take (j + 1)) lo hi = outE (l.take j) lo hi) := by show _ = _; rw [HX.out, if_neg (fun h => h.elim h1 h2), List.append_nil]
          clear h1 h2
          go_wp2_with fail
          exact ⟨⟨j + 1, by go_num, by have := HLT.out; omega, by show ESt _ _ (outE (l.take (j + 1)) lo hi) _ _; rw [HY.out]; exact HST.out⟩, by have := HLT.out; simp [intOf]; omega⟩
    · have hji : ¬ (j : Int) < (n : Int) := by omega
      have HK : Hid (outE (l.take j) lo hi = outE l lo hi) := by show _ = _; rw [List.take_of_length_le (by have := HN.out; omega)]
      clear hj hlt
      go_wp2_with fail
      go_ret
      rw [← HK.out]
      first
        | exact HST.out.made
        | (have := HST.out.made; simp only [List.length_take] at this; exact this)
end Go.Proofs.YtfihklpofmcfgaaGreat
namespace Go.Proofs.YtfihklpofmcfgaaGreat
theorem rankE_cons (x : En) (t : List En) (k : Int) : rankE (x :: t) k = rankE t k + (if x.key < k then 1 else 0) := by
  unfold rankE
  rw [List.countP_cons]
  by_cases h : x.key < k <;> simp [h]
theorem rankE_zero : ∀ {t : List En} {k : Int}, (∀ y ∈ t, k ≤ y.key) → rankE t k = 0
  | [], k, h => rfl
  | x :: t, k, h => by
    rw [rankE_cons, rankE_zero (fun y hy => h y (by simp [hy])), if_neg (by have := h x (by simp); omega)]
/-- the entries before the rank have lesser keys, those behind it none -/
theorem rank_iff : ∀ {l : List En} (k : Int), Up l → ∀ {j : Nat} {e : En}, l[j]? = some e → (e.key < k ↔ j < rankE l k)
  | [], k, h, j, e, he => by simp at he
  | x :: t, k, h, j, e, he => by
    unfold Up at h
    rw [List.pairwise_cons] at h
    rw [rankE_cons]
    match j, he with
    | 0, he =>
      simp at he
      subst he
      by_cases hx : x.key < k
      · rw [if_pos hx]; exact ⟨fun _ => by omega, fun _ => hx⟩
      · rw [if_neg hx, rankE_zero (fun y hy => by have := h.1 y hy; omega)]
        exact ⟨fun h => absurd h hx, fun h => absurd h (by omega)⟩
    | j + 1, he =>
      simp at he
      have hm := List.mem_of_getElem? he
      have hlt := h.1 e hm
      have ih := rank_iff k h.2 he
      by_cases hx : x.key < k
      · rw [if_pos hx]
        exact ⟨fun h => by have := ih.1 h; omega, fun h => ih.2 (by omega)⟩
      · rw [if_neg hx, rankE_zero (fun y hy => by have := h.1 y hy; omega)]
        exact ⟨fun h => by omega, fun h => by omega⟩
theorem rank_of {l : List En} (h : Up l) {j : Nat} {e : En} (he : l[j]? = some e) : rankE l e.key = j := by
  have h1 := rank_iff e.key h he
  have hj := (List.getElem?_eq_some_iff.1 he).1
  rcases Nat.lt_trichotomy (rankE l e.key) j with h2 | h2 | h2
  · have h3 : l[rankE l e.key]? = some l[rankE l e.key] := List.getElem?_eq_getElem (by omega)
    have h4 := rank_iff e.key h h3
    have h5 : l[rankE l e.key].key < e.key := by
      have := List.pairwise_iff_getElem.1 h (rankE l e.key) j (by omega) hj h2
      rw [List.getElem?_eq_getElem hj] at he
      have e2 : l[j].key = e.key := by rw [Option.some.inj he]
      omega
    have := h4.1 h5
    omega
  · exact h2
  · have := h1.2 h2; omega
theorem get_of {l : List En} (h : Up l) {e : En} (he : e ∈ l) : getE l e.key = some e := by
  obtain ⟨j, hj, hje⟩ := List.mem_iff_getElem.1 he
  cases hg : getE l e.key with
  | none =>
    unfold getE at hg
    have := List.find?_eq_none.1 hg e he
    simp at this
  | some e' =>
    unfold getE at hg
    have h1 := List.mem_of_find?_eq_some hg
    have h2 := List.find?_some hg
    have h3 : e'.key = e.key := of_decide_eq_true h2
    obtain ⟨i, hi, hie⟩ := List.mem_iff_getElem.1 h1
    have r1 := rank_of h (j := j) (e := e) (by rw [List.getElem?_eq_getElem hj, hje])
    have r2 := rank_of h (j := i) (e := e') (by rw [List.getElem?_eq_getElem hi, hie])
    rw [h3] at r2
    have hij : i = j := by omega
    subst hij
    rw [← hje, ← hie]
theorem get_some {l : List En} {k : Int} {e : En} (h : getE l k = some e) : e ∈ l ∧ e.key = k := by
  unfold getE at h
  have h2 := List.find?_some h
  exact ⟨List.mem_of_find?_eq_some h, of_decide_eq_true h2⟩
theorem get_none {l : List En} {k : Int} (h : getE l k = none) : ∀ e ∈ l, e.key ≠ k := fun e he => by
  unfold getE at h
  have := List.find?_eq_none.1 h e he
  simpa using this
theorem selE_nat (l : List En) (j : Nat) : selE l (j : Int) = l[j]? := by unfold selE; rw [if_pos (by omega), Int.toNat_natCast]
theorem selE_pred (l : List En) (j : Nat) : selE l ((j : Int) - 1) = if j = 0 then none else l[j - 1]? := by
  unfold selE
  by_cases h : j = 0
  · rw [if_pos h, if_neg (by omega)]
  · rw [if_neg h, if_pos (by omega), show ((j : Int) - 1).toNat = j - 1 by omega]
end Go.Proofs.YtfihklpofmcfgaaGreat
