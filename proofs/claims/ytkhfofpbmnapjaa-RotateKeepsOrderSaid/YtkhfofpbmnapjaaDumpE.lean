/- Which slots of a dump are reachable: the reference's marks. Which slots of a dump are reachable: the walk of the reference's marks. -/
import Derived.Test.YtkhfofpbmnapjaaDumpR
import Derived.Deep.LoopGhost
set_option linter.unusedVariables false
namespace Go.Proofs.Ytkhfofpbmnapjaa
open Go.RowKit

theorem bInfo : (Try.prog.info? 4).map (fun i => (i.zero, i.size, i.bytes)) = some (some (.bool false), 1, 1) := by kernel_rfl
theorem uInfo : (Try.prog.info? 28).map (fun i => (i.zero, i.size, i.bytes)) = some (some (.int .u32 0), 1, 4) := by kernel_rfl
def boolR (n : Nat) (B : Nat → Bool) : List Value := (List.range n).map fun i => .bool (B i)
theorem boolR_at {n i : Nat} (B : Nat → Bool) (h : i < n) : (boolR n B)[i]? = some (.bool (B i)) := by simp [boolR, h]
theorem boolR_zero (n : Nat) : (madeCells (Value.bool false).cells (n * 1)).toList = boolR n fun _ => false := by
  rw [Nat.mul_one]
  refine (toList_madeCells_one (.bool false) n).trans ?_
  unfold boolR
  simp [List.map_const']
theorem boolR_set {n : Nat} (B : Nat → Bool) (i : Nat) : (boolR n B).set i (.bool true) = boolR n (setB B i) := by
  apply List.ext_getElem?
  intro j
  unfold boolR setB
  rw [List.getElem?_set]
  by_cases hj : j < n
  · by_cases e : i = j
    · subst e; simp [hj]
    · have e2 : ¬ j = i := fun h => e h.symm
      simp [hj, e, e2]
  · by_cases e : i = j
    · subst e; simp [hj]
    · simp [hj, e]
theorem u32s_len (l : List Nat) : (u32s l).length = l.length := by simp [u32s]
theorem u32s_ones (l : List Nat) : ∀ u ∈ u32s l, u.oneCell' = true := by
  intro u hu
  unfold u32s at hu
  obtain ⟨i, _, rfl⟩ := List.mem_map.1 hu
  rfl
theorem u32s_app (l m : List Nat) : u32s (l ++ m) = u32s l ++ u32s m := by simp [u32s]
theorem u32s_last (l : List Nat) (x : Nat) : (u32s (l ++ [x]))[l.length]? = some (.int .u32 (x : Int)) := by simp [u32s]
theorem row_cut {w : World} {B n m c : Nat} {e : TypeId} {g : Nat} {xs : List Value} (h : w.ownsRow B e 1 (.slice (some ⟨g, 0, none⟩) n c) n xs) (hm : m ≤ n) : w.ownsRow B e 1 (.slice (some ⟨g, 0, none⟩) m c) m (xs.take m) := by
  have hl := h.1
  rcases h.2 with ⟨hv, _⟩ | ⟨g2, cap, cur, hv, hB, hc, hn, hcm, hs, ht⟩
  · simp at hv
  · simp only [Value.slice.injEq, Option.some.injEq, Addr.mk.injEq] at hv
    obtain ⟨⟨rfl, _⟩, _, rfl⟩ := hv
    refine ⟨by simp; omega, .inr ⟨g, c, cur, rfl, hB, hc, by omega, hcm, hs, ?_⟩⟩
    rw [← ht, List.take_take]
    congr 1
    omega
theorem row_caps {w : World} {B n c s : Nat} {e : TypeId} {a : Option Addr} {xs : List Value} (h : w.ownsRow B e s (.slice a n c) n xs) : n ≤ c ∧ c ≤ maxLen := by
  rcases h.2 with ⟨hv, hn⟩ | ⟨g2, cap, cur, hv, hB, hc, hn, hcm, hs, ht⟩
  · simp only [Value.slice.injEq] at hv
    omega
  · simp only [Value.slice.injEq] at hv
    omega
theorem cell_new2 (w : World) (x y : Value) (t : TypeId) : ∀ j u, [x, y][j]? = some u → (w.alloc (.cells #[x, y] t)).cell? ((⟨w.heap.size, 0, none⟩ : Addr).add j) = some u := by
  intro j u hu
  match j, hu with
  | 0, hu => simp at hu; subst hu; simp [Addr.add]
  | 1, hu => simp at hu; subst hu; simp [Addr.add]
theorem one_cell2 (k : IntKind) (x y : Int) : ∀ u ∈ [Value.int k x, Value.int k y], u.oneCell' = true := by
  intro u hu; simp at hu; rcases hu with rfl | rfl <;> rfl
/-- append of a slice that reads as l to a row of the call's own -/
theorem wpList_append_at {P : Program} {w : World} {ops : Array Oper} {rest : List Oper} {o : Oper} {a : Act} {Q : Exit → Act → World → Prop} (hgd : o.guard = none) (s x : Operand) (t : TypeId)
    (ho : o.op = .call { callee := .builtin .append, args := #[s, x], argTypes := #[t, t] })
    (base : Nat) (e : TypeId) (i : TypeInfo) (z : Value) (bytes : Nat) (ht : P.underlying t = some (.slice e)) (hi : P.info? e = some i) (hz : i.zero = some z)
    (hsize : i.size = 1) (hby : i.bytes = bytes) (hzs : z.cells.size = 1)
    (v : Value) (n : Nat) (xs : List Value) (hs : a.eval s = v) (hown : w.ownsRow base e 1 v n xs)
    (ad : Option Addr) (c : Nat) (l : List Nat) (m : Nat) (hm : m = l.length) (hx : a.eval x = .slice ad m c) (hrow : U32At w ad l)
    (h63 : n + m ≤ maxLen) (hbytes : (n + m) * bytes ≤ 140737488355328) (hbase : base ≤ w.heap.size)
    (h : ∀ v' w', w'.ownsRow base e 1 v' (n + m) (xs ++ u32s l) → w.grownBy w' v.ownBlock → wpList P ops Q rest (a.put o.dst v') w') : wpList P ops Q (o :: rest) a w := by
  refine wpList_plain hgd fun _ hK => ?_
  have hK2 : ∀ v' w', w'.ownsRow base e 1 v' (n + m) (xs ++ u32s l) → w.grownBy w' v.ownBlock → _ := fun v' w' h2 h3 => hK _ _ (h v' w' h2 h3)
  subst hm
  cases ad with
  | some x0 =>
    refine wp_append_own w s x t ho base e i z 1 bytes ht hi hz hsize hby hzs (by decide) v n xs hs hown x0 l.length c (u32s l) hx (by rw [u32s_len]; omega) ?_ (u32s_ones l) h63 hbytes hbase fun v' w' h2 h3 _ => hK2 v' w' h2 h3
    intro j u hu
    have hj : j < l.length := by have := (List.getElem?_eq_some_iff.1 hu).1; rwa [u32s_len] at this
    obtain ⟨b, off, hb, _, hc⟩ := hrow.cell j hj
    simp only [Option.some.injEq] at hb
    subst hb
    rw [add_at, hc, ← hu]
    simp [u32s, List.getD_eq_getElem?_getD, hj]
  | none =>
    have hl : l = [] := by
      cases l with
      | nil => rfl
      | cons y t => obtain ⟨_, _, hb, _⟩ := hrow.cell 0 (by simp); cases hb
    subst hl
    have hrun := run_append_owned_none (P := P) (w := w) base t o.type e i 1 ht hi v n xs hown
    unfold Oper.wp
    simp only [List.length_nil] at hx
    have hc0 : ∀ c', (Builtin.append_ #[t, t] o.type #[v, .slice none 0 c']).run P w = .ok v w := fun c' => by
      refine Eq.trans ?_ (run_append_owned_none (P := P) (w := w) base t o.type e i 1 ht hi v n xs hown)
      rfl
    simp [execOp, ho, resolve, invoke, builtin, hs, hx, hc0, Result.andThen]
    exact hK2 _ _ (by simpa [u32s] using hown) (World.grownBy.refl _ _)
end Go.Proofs.Ytkhfofpbmnapjaa
set_option linter.unusedVariables false
namespace Go.Proofs.Ytkhfofpbmnapjaa
open Go.RowKit

def MadeMarks (w : World) (S : Nat → Sl) (n : Nat) (rs : List Nat) (e : Ending) (w' : World) : Prop :=
  ∃ g B, e = .returned (.slice (some ⟨g, 0, none⟩) n n) ∧ w'.ownsRow w.heap.size 4 1 (.slice (some ⟨g, 0, none⟩) n n) n (boolR n B) ∧ (∀ j, j < n → (B j = true ↔ Rch S n rs (j + 1))) ∧ Below w.heap.size w w'
/-- the marks and the stack in memory -/
structure MarkRel (S : Nat → Sl) (n : Nat) (rs : List Nat) (q : Nat) (w1 : World) (gk : Nat) (x : Value) (B : Nat → Bool) (st : List Nat) (wr : World) : Prop where
  inv : MInv S n rs B st
  row : wr.ownsRow (q + 1) 4 1 (.slice (some ⟨q + 1, 0, none⟩) n n) n (boolR n B)
  val : ∃ a c, x = .slice a st.length c
  work : wr.ownsRow (q + 2) 28 1 x st.length (u32s st)
  lt : ∀ y ∈ st, y < 4294967296
  num : 3 * um n B + st.length ≤ gk
  big : gk ≤ 2000000
  below : Below (q + 1) w1 wr
section
variable {S : Nat → Sl} {n q gk gk' : Nat} {rs : List Nat} {w1 wr w' : World} {x x' : Value} {B : Nat → Bool} {st t : List Nat}
theorem MarkRel.from (h : MarkRel S n rs q w1 gk x B st wr) (hb : Below wr.heap.size wr w') (hs : q + 1 ≤ w1.heap.size) : MarkRel S n rs q w1 gk x B st w' :=
  ⟨h.inv, row_below h.row hb, h.val, row_below h.work hb, h.lt, h.num, h.big, h.below.trans (hb.mono (Nat.le_trans hs h.below.size))⟩
theorem MarkRel.pop {a : Option Addr} {c y : Nat} (h : MarkRel S n rs q w1 gk (.slice a (t.length + 1) c) B (t ++ [y]) wr) (hy : Al S n y → B (y - 1) = true) (hg : gk' < gk) (hg2 : 3 * um n B + t.length ≤ gk') : MarkRel S n rs q w1 gk' (.slice a t.length c) B t wr := by
  have hw := h.work
  rw [List.length_append] at hw
  obtain ⟨g, rfl⟩ := row_head hw (by simp)
  have h1 := row_cut hw (m := t.length) (by simp)
  rw [show (u32s (t ++ [y])).take t.length = u32s t by rw [u32s_app]; simp [u32s]] at h1
  exact ⟨h.inv.skip hy, h.row, ⟨_, _, rfl⟩, h1, fun z hz => h.lt z (by simp [hz]), hg2, by have := h.big; omega, h.below⟩
/-- a slot was marked, its children are not yet on the stack -/
structure MarkMid (n q : Nat) (w1 : World) (B : Nat → Bool) (x : Value) (t : List Nat) (wr : World) : Prop where
  row : wr.ownsRow (q + 1) 4 1 (.slice (some ⟨q + 1, 0, none⟩) n n) n (boolR n B)
  work : wr.ownsRow (q + 2) 28 1 x t.length (u32s t)
  below : Below (q + 1) w1 wr
theorem MarkMid.from (h : MarkMid n q w1 B x t wr) (hb : Below wr.heap.size wr w') (hs : q + 1 ≤ w1.heap.size) : MarkMid n q w1 B x t w' :=
  ⟨row_below h.row hb, row_below h.work hb, h.below.trans (hb.mono (Nat.le_trans hs h.below.size))⟩
theorem MarkRel.mid {a : Option Addr} {c j y : Nat} (h : MarkRel S n rs q w1 gk (.slice a (t ++ [y]).length c) B (t ++ [y]) wr) : MarkMid n q w1 (setB B j) (.slice a t.length c) t (wr.setCell ⟨q + 1, j, none⟩ (.bool true)) := by
  have hw := h.work
  rw [List.length_append] at hw
  obtain ⟨g, rfl⟩ := row_head hw (by simp)
  have h1 := row_cut hw (m := t.length) (by simp)
  rw [show (u32s (t ++ [y])).take t.length = u32s t by rw [u32s_app]; simp [u32s]] at h1
  refine ⟨?_, row_keep h1 fun k hk => heap_setCell_other _ _ _ _ ?_, h.below.setCell (Nat.le_refl _) _⟩
  · rw [← boolR_set]; exact (h.row.stored j _).1
  · have := row_from h1 k hk
    show k ≠ q + 1
    omega
theorem MarkMid.push {v : Value} {j : Nat} {w2 : World} (h : MarkMid n q w1 (setB B j) x t wr) (hr : MarkRel S n rs q w1 gk x' B (t ++ [j + 1]) w2) (hj : Al S n (j + 1)) (hb : B j = false) (hk : (S j).nd.left < 4294967296 ∧ (S j).nd.right < 4294967296)
    (hg : wr.grownBy w' x.ownBlock) (hv : w'.ownsRow (q + 2) 28 1 v (t.length + 2) (u32s t ++ [.int .u32 ((S j).nd.left : Int), .int .u32 ((S j).nd.right : Int)])) (h0 : 0 < gk) (hq : q + 1 ≤ w1.heap.size) :
    MarkRel S n rs q w1 (gk - 1) v (setB B j) (t ++ [(S j).nd.left, (S j).nd.right]) w' := by
  have hl : (t ++ [(S j).nd.left, (S j).nd.right]).length = t.length + 2 := by simp
  obtain ⟨a, c, hvv⟩ := row_val hv
  have hnum := hr.num
  rw [List.length_append] at hnum
  have hu := um_set B hb n (by have := hj.2.1; omega)
  refine ⟨hr.inv.mark hj, row_keep h.row fun k hk => hg.block k (row_lt h.row k hk).2 fun e => ?_, ⟨a, c, by rw [hl]; exact hvv⟩, ?_, fun y hy => ?_, ?_, by have := hr.big; omega, h.below.grown hg (Nat.le_trans hq h.below.size) fun k hk => ?_⟩
  · simp [Value.ownBlock] at hk; have := row_from h.work k e.symm; omega
  · rw [hl, u32s_app]; exact hv
  · rcases List.mem_append.1 hy with h1 | h1
    · exact hr.lt y (by simp [h1])
    · simp at h1; rcases h1 with rfl | rfl
      · exact hk.1
      · exact hk.2
  · rw [hl]; simp at hnum; omega
  · have := row_from h.work k hk; omega
end
set_option maxHeartbeats 4000000 in
set_option maxRecDepth 100000 in
theorem marks_any {w : World} {a b ra : Option Addr} {n c m d rc : Nat} {S : Nat → Sl} (rs : List Nat) (h : SlotsAt w a n S) (hr : U32At w ra rs) (hn : n ≤ 65536) (hl : rs.length ≤ 1000000) :
    Calls Try.prog 60 #[.agg #[.slice a n c, .slice b m d], .slice ra rs.length rc] w (MadeMarks w S n rs) := by
  obtain ⟨i0, hi, hz0, hz1, hz2⟩ := info_parts bInfo
  obtain ⟨i1, ji, jz0, jz1, jz2⟩ := info_parts uInfo
  have hni : (n : Int) ≤ 65536 := by omega
  have hni0 : (0 : Int) ≤ (n : Int) := by omega
  have hb1 : Below w.heap.size w (w.alloc (Obj.cells #[Value.slice a n c, Value.slice b m d] 32)) := (Below.refl _ _).alloc (Nat.le_refl _) _
  have HB := Lib.hid hb1
  have HS := Lib.hid (h.below hb1)
  have HR := Lib.hid (hr.below hb1)
  have HX := Lib.hid (DBox.new w a b n c m d)
  have hsz : (w.alloc (Obj.cells #[Value.slice a n c, Value.slice b m d] 32)).heap.size = w.heap.size + 1 := by simp
  have HZ := Lib.hid hsz
  obtain ⟨hc0, hc1⟩ := HX.out.cells
  obtain ⟨L, hL⟩ : ∃ L, rs.length = L := ⟨_, rfl⟩
  have HL := Lib.hid hL
  rw [hL] at hl ⊢
  have hLi : (L : Int) ≤ 1000000 := by omega
  clear hb1 h hr hsz hL
  go_enter Try.func60, Try.ntmps60
  go_upto_region 1 with fail
  generalize hW1 : w.alloc (Obj.cells #[Value.slice a n c, Value.slice b m d] 32) = w1 at *
  clear hW1
  generalize hQ : w.heap.size = q at *
  have HQ := Lib.hid hQ
  clear hQ
  go_upto_region 2 with (refine wpList_make_full _ rfl (.tmp 11) (.tmp 11) 109 rfl (q + 1) 4 i0 (.bool false) 1 Try.underlying109 hi hz0 hz1 .i64 .i64 (n : Int) (n : Int) n rfl rfl rfl rfl (by rw [hz2]; omega) (by unfold maxLen; omega) (Nat.le_of_eq HZ.out.symm) ?_; intro w2 ho2 hg2; rw [HZ.out])
  rw [boolR_zero, HZ.out] at ho2
  have hb2 : Below (q + 1) w1 w2 := (Below.refl _ _).grown hg2 (Nat.le_of_eq HZ.out.symm) (fun k hk => by cases hk)
  have hs2 : q + 2 ≤ w2.heap.size := (row_lt ho2 (q + 1) rfl).2
  have hr2 := HR.out.below (hb2.mono (Nat.le_of_eq HZ.out))
  clear hg2
  go_upto_region 3 with (at_builtin; refine wpList_append_at rfl (.const (.slice none 0 0)) (.tmp 13) 24 rfl (q + 2) 28 i1 (.int .u32 0) 4 Try.underlying24 ji jz0 jz1 jz2 rfl (.slice none 0 0) 0 [] rfl (World.ownsRow_nil _ _ _ _) ra rc rs L HL.out.symm rfl hr2 (by unfold maxLen; omega) (by omega) hs2 ?_; intro v3 w3 ho3 hg3)
  rw [Nat.zero_add, List.nil_append] at ho3
  have hb3 : Below (q + 2) w2 w3 := (Below.refl _ _).grown hg3 hs2 (fun k hk => by cases hk)
  obtain ⟨a3, c3, hv3⟩ := row_val ho3
  have HM : Hid (MarkRel S n rs q w1 (3 * n + L) v3 (fun _ => false) rs w3) := by
    refine ⟨MInv.start S n rs, row_keep ho2 fun k hk => ?_, ⟨a3, c3, by rw [HL.out]; exact hv3⟩, by rw [HL.out]; exact ho3, HR.out.lt, ?_, by omega, hb2.trans (hb3.mono (by omega))⟩
    · simp [Value.ownBlock] at hk; subst hk; exact hb3.block _ (by omega)
    · have := um_le (fun _ => false) n; rw [HL.out]; omega
  clear ho2 hb2 hs2 hr2 ho3 hb3 hv3 hg3 hc0 hc1
  go_wp2_with fail
  go_loopg [6] (3 * n + L) (fun k x wr => ∃ B st, MarkRel S n rs q w1 k x B st wr)
  case atStart => exact ⟨_, _, HM.out⟩
  case round =>
    clear HM
    obtain ⟨B, st, hM⟩ := hrel
    have hb := hM.below
    obtain ⟨xa, xc, rfl⟩ := hM.val
    rcases List.eq_nil_or_concat st with rfl | ⟨t, y, rfl⟩
    · have HMM := Lib.hid hM
      clear hM hb
      rw [show ([] : List Nat).length = 0 from rfl]
      go_wp2
      go_ret
      exact ⟨_, B, rfl, row_mono HMM.out.row (by rw [HQ.out]; omega), fun j hj => HMM.out.inv.done hj, by rw [HQ.out]; exact HB.out.trans (HMM.out.below.mono (by omega))⟩
    · rw [List.concat_eq_append] at *
      obtain ⟨T, hT⟩ : ∃ T, t.length = T := ⟨_, rfl⟩
      have hTl : (t ++ [y]).length = T + 1 := by rw [List.length_append, hT]; rfl
      have hw := hM.work
      rw [hTl] at hw
      obtain ⟨g, rfl⟩ := row_head hw (by omega)
      have hcap := row_caps hw
      have hcy := hw.cellAt T (by omega)
      rw [← hT, u32s_last, hT] at hcy
      have hy4 : y < 4294967296 := hM.lt y (by simp)
      have hTb : T + 1 ≤ 2000000 := by have h8 := hM.num; have h9 := hM.big; rw [hTl] at h8; omega
      have hTi : (T : Int) + 1 ≤ 2000000 := by omega
      have hTi0 : (0 : Int) ≤ (T : Int) := by omega
      have hxc : (T : Int) + 1 ≤ (xc : Int) := by omega
      have hxc2 : (xc : Int) ≤ 9223372036854775807 := by have := hcap.2; unfold maxLen at this; omega
      have hX := HX.out.below hb (by omega)
      obtain ⟨hc0, hc1⟩ := hX.cells
      have hSS := HS.out.below (hb.mono (Nat.le_of_eq HZ.out))
      have HMM := Lib.hid hM
      have HTT := Lib.hid hT
      have HSS := Lib.hid hSS
      have HTL := Lib.hid hTl
      rw [hTl]
      clear hM hw hcap hT hTb hX hSS hTl
      go_wp2_with fail
      refine (dallocated_any HSS.out hn hy4).mono ?_
      rintro e w4 ⟨rfl, hb4⟩
      have hM4 := HMM.out.from hb4 (Nat.le_of_eq HZ.out.symm)
      have hbb := hM4.below
      clear hcy hc0 hc1
      have hnum := HMM.out.num
      rw [HTL.out] at hnum
      by_cases hal : Al S n y
      · rw [show decide (1 ≤ y ∧ y ≤ n ∧ (S (y - 1)).on = true) = true from decide_eq_true hal]
        obtain ⟨j, rfl⟩ : ∃ j, y = j + 1 := ⟨y - 1, by have := hal.1; omega⟩
        have hjn : j < n := by have := hal.2.1; omega
        have hji : (j : Int) < (n : Int) := by omega
        have hj0 : (0 : Int) ≤ (j : Int) := by omega
        have hyi : ((j + 1 : Nat) : Int) = (j : Int) + 1 := by omega
        have hcB := (hM4.row.cellAt j (by omega)).trans (boolR_at B hjn)
        have hfB := hM4.row.frozenAt j
        have HAL := Lib.hid hal
        have HM4 := Lib.hid hM4
        have HN := Lib.hid hnum
        clear hal hM4 hb4 hnum hb
        cases hBj : B j
        · rw [hBj] at hcB
          have HBJ := Lib.hid hBj
          clear hBj
          have hMid := HM4.out.mid (j := j)
          rw [HTT.out] at hMid
          go_upto_region 8 with fail
          clear hcB hfB hbb
          have hbb := hMid.below
          have HMid := Lib.hid hMid
          generalize w4.setCell ⟨q + 1, j, none⟩ (.bool true) = w5 at HMid hbb ⊢
          obtain ⟨hc0, hc1⟩ := (HX.out.below hbb (by omega)).cells
          obtain ⟨b', off, rfl, hlb, d0, d1, d2, d3, d4, d5, d6, d7, d8, d9, d10⟩ := (HS.out.below (hbb.mono (Nat.le_of_eq HZ.out))).all hjn
          clear hMid hbb
          go_wp2_with fail
          refine (kids_any _ _ _ _ _ _ _ _ _ _ _ _).mono ?_
          rintro e w6 ⟨rfl, hb6⟩
          clear hc0 hc1 d0 d1 d2 d3 d4 d5 d6 d7 d8 d9 d10
          have hM6 := HMid.out.from hb6 (Nat.le_of_eq HZ.out.symm)
          have hal7 := (Below.refl w6.heap.size w6).alloc (Nat.le_refl _) (Obj.cells #[Value.int .u32 ((S j).nd.left : Int), .int .u32 ((S j).nd.right : Int)] 114)
          have hM7 := hM6.from hal7 (Nat.le_of_eq HZ.out.symm)
          have hK := heap_alloc_new w6 (Obj.cells #[Value.int .u32 ((S j).nd.left : Int), .int .u32 ((S j).nd.right : Int)] 114)
          go_upto_region 9 with fail
          generalize w6.alloc (Obj.cells #[Value.int .u32 ((S j).nd.left : Int), .int .u32 ((S j).nd.right : Int)] 114) = w7 at hM7 hK ⊢
          clear hM6 hal7 hb6 hlb
          generalize w6.heap.size = kb at hK ⊢
          obtain ⟨k0, k1⟩ := two_cells hK
          have hal8 := (Below.refl w7.heap.size w7).alloc (Nat.le_refl _) (Obj.cells #[Value.int .u32 ((S j).nd.left : Int), .int .u32 ((S j).nd.right : Int)] 28)
          have hM8 := hM7.from hal8 (Nat.le_of_eq HZ.out.symm)
          have hs8 : q + 2 ≤ (w7.alloc (Obj.cells #[Value.int .u32 ((S j).nd.left : Int), .int .u32 ((S j).nd.right : Int)] 28)).heap.size := (row_lt hM8.row (q + 1) rfl).2
          have HM8 := Lib.hid hM8
          have hwk := hM8.work
          rw [HTT.out] at hwk
          clear hM7 hal8 hM8 hK
          go_wp2_with (at_builtin; refine wpList_append_own _ rfl (.tmp 51) (.tmp 56) 24 rfl (q + 2) 28 i1 (.int .u32 0) 1 4 Try.underlying24 ji jz0 jz1 jz2 rfl (by decide) _ T (u32s t) rfl hwk ⟨w7.heap.size, 0, none⟩ 2 2 [.int .u32 ((S j).nd.left : Int), .int .u32 ((S j).nd.right : Int)] rfl rfl (cell_new2 _ _ _ _) (one_cell2 _ _ _) (by unfold maxLen; omega) (by omega) hs8 ?_; intro v9 w9 ho9 hg9 _)
          rw [← HTT.out] at ho9
          go_roundg (gk - 1)
          case measure => have := HN.out; omega
          case rel => exact ⟨setB B j, _, HM8.out.push HM4.out HAL.out HBJ.out (HS.out.kid j hjn) hg9 ho9 (by have := HN.out; omega) (Nat.le_of_eq HZ.out.symm)⟩
        · rw [hBj] at hcB
          have HBJ := Lib.hid hBj
          clear hBj hbb
          go_wp2
          go_roundg (gk - 1)
          case measure => have := HN.out; omega
          case rel =>
            have h9 := HM4.out
            rw [HTL.out] at h9
            rw [← HTT.out] at h9 ⊢
            exact ⟨B, t, h9.pop (fun _ => HBJ.out) (by have := HN.out; omega) (by have := HN.out; have := HTT.out; omega)⟩
      · rw [show decide (1 ≤ y ∧ y ≤ n ∧ (S (y - 1)).on = true) = false from decide_eq_false hal]
        have HAL := Lib.hid hal
        have HM4 := Lib.hid hM4
        have HN := Lib.hid hnum
        clear hal hM4 hb4 hnum hb hbb
        go_wp2
        go_roundg (gk - 1)
        case measure => have := HN.out; omega
        case rel =>
          have h9 := HM4.out
          rw [HTL.out] at h9
          rw [← HTT.out] at h9 ⊢
          exact ⟨B, t, h9.pop (fun h => absurd h HAL.out) (by have := HN.out; omega) (by have := HN.out; have := HTT.out; omega)⟩
end Go.Proofs.Ytkhfofpbmnapjaa
