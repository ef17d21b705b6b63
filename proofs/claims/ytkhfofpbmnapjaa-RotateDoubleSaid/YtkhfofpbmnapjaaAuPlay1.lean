/- append of a slice that reads as a list, in a region that draws its order. The client of layer 6's statements: an arena and the row of the references that it holds; what an operation leaves. -/
import Derived.Test.YtkhfofpbmnapjaaDumpE
import Derived.Test.YtkhfofpbmnapjaaPlayPure
import Derived.Test.YtkhfofpbmnapjaaArenaChain
import Derived.Maps.AppendAt
set_option linter.unusedVariables false
namespace Go.Proofs.Ytkhfofpbmnapjaa
open Go.RowKit
theorem wp_append_at {P : Program} {w : World} {o : Oper} {a : Act} {K : Act → World → Prop} {Q : Exit → Act → World → Prop} (s x : Operand) (t : TypeId)
    (ho : o.op = .call { callee := .builtin .append, args := #[s, x], argTypes := #[t, t] })
    (base : Nat) (e : TypeId) (i : TypeInfo) (z : Value) (bytes : Nat) (ht : P.underlying t = some (.slice e)) (hi : P.info? e = some i) (hz : i.zero = some z)
    (hsize : i.size = 1) (hby : i.bytes = bytes) (hzs : z.cells.size = 1)
    (v : Value) (n : Nat) (xs : List Value) (hs : a.eval s = v) (hown : w.ownsRow base e 1 v n xs)
    (ad : Option Addr) (c : Nat) (l : List Nat) (m : Nat) (hm : m = l.length) (hx : a.eval x = .slice ad m c) (hrow : U32At w ad l)
    (h63 : n + m ≤ maxLen) (hbytes : (n + m) * bytes ≤ 140737488355328) (hbase : base ≤ w.heap.size)
    (h : ∀ v' w', w'.ownsRow base e 1 v' (n + m) (xs ++ u32s l) → w.grownBy w' v.ownBlock → K (a.put o.dst v') w') : o.wp P a w K Q := by
  subst hm
  cases ad with
  | some x0 =>
    refine wp_append_own w s x t ho base e i z 1 bytes ht hi hz hsize hby hzs (by decide) v n xs hs hown x0 l.length c (u32s l) hx (by rw [u32s_len]; omega) ?_ (u32s_ones l) h63 hbytes hbase fun v' w' h2 h3 _ => h v' w' h2 h3
    intro j u hu
    have hj : j < l.length := by have := (List.getElem?_eq_some_iff.1 hu).1; rwa [u32s_len] at this
    obtain ⟨b, off, hb, _, hc⟩ := hrow.cell j hj
    simp only [Option.some.injEq] at hb
    subst hb
    rw [add_at, hc, ← hu]
    simp [u32s, List.getD_eq_getElem?_getD, hj]
  | none =>
    have hl : l = [] := by
      cases l with
      | nil => rfl
      | cons y t => obtain ⟨_, _, hb, _⟩ := hrow.cell 0 (by simp); cases hb
    subst hl
    unfold Oper.wp
    simp only [List.length_nil] at hx
    have hc0 : ∀ c', (Builtin.append_ #[t, t] o.type #[v, .slice none 0 c']).run P w = .ok v w := fun c' => by
      refine Eq.trans ?_ (run_append_owned_none (P := P) (w := w) base t o.type e i 1 ht hi v n xs hown)
      rfl
    simp [execOp, ho, resolve, invoke, builtin, hs, hx, hc0, Result.andThen]
    exact h _ _ (by simpa [u32s] using hown) (World.grownBy.refl _ _)
theorem step_append_at {P : Program} {w : World} {ops : Array Oper} {o : Oper} {a : Act} {K : Act → World → Prop} {Q : Exit → Act → World → Prop} {E : Prop} (hgd : o.guard = none) (s x : Operand) (t : TypeId)
    (ho : o.op = .call { callee := .builtin .append, args := #[s, x], argTypes := #[t, t] })
    (base : Nat) (e : TypeId) (i : TypeInfo) (z : Value) (bytes : Nat) (ht : P.underlying t = some (.slice e)) (hi : P.info? e = some i) (hz : i.zero = some z)
    (hsize : i.size = 1) (hby : i.bytes = bytes) (hzs : z.cells.size = 1)
    (v : Value) (n : Nat) (xs : List Value) (hs : a.eval s = v) (hown : w.ownsRow base e 1 v n xs)
    (ad : Option Addr) (c : Nat) (l : List Nat) (m : Nat) (hm : m = l.length) (hx : a.eval x = .slice ad m c) (hrow : U32At w ad l)
    (h63 : n + m ≤ maxLen) (hbytes : (n + m) * bytes ≤ 140737488355328) (hbase : base ≤ w.heap.size)
    (h : ∀ v' w', w'.ownsRow base e 1 v' (n + m) (xs ++ u32s l) → w.grownBy w' v.ownBlock → K (a.put o.dst v') w') : if Region.wanted o (yielded ops a.tmps) = true then Oper.wp P o a w K Q else E := by
  have hw : Region.wanted o (yielded ops a.tmps) = true := by simp [Region.wanted, hgd]
  rw [if_pos hw]
  exact wp_append_at s x t ho base e i z bytes ht hi hz hsize hby hzs v n xs hs hown ad c l m hm hx hrow h63 hbytes hbase h
/-- a part of a row of the call's own, read -/
theorem u32at_part {w : World} {B c g : Nat} {l : List Nat} (h : w.ownsRow B 28 1 (.slice (some ⟨g, 0, none⟩) l.length c) l.length (u32s l)) (hl : ∀ y ∈ l, y < 4294967296) (k : Nat) : U32At w (some ⟨g, k, none⟩) (l.drop k) := by
  refine ⟨fun j hj => ⟨g, k, rfl, (row_lt h g rfl).2, ?_⟩, fun y hy => hl y (List.mem_of_mem_drop hy)⟩
  rw [List.length_drop] at hj
  rw [h.cellAt (k + j) (by omega)]
  simp [u32s, List.getD_eq_getElem?_getD, show k + j < l.length by omega]
theorem u32at_take {w : World} {B c g : Nat} {l : List Nat} (h : w.ownsRow B 28 1 (.slice (some ⟨g, 0, none⟩) l.length c) l.length (u32s l)) (hl : ∀ y ∈ l, y < 4294967296) (k : Nat) (hk : k ≤ l.length) : U32At w (some ⟨g, 0, none⟩) (l.take k) := by
  refine ⟨fun j hj => ⟨g, 0, rfl, (row_lt h g rfl).2, ?_⟩, fun y hy => hl y (List.mem_of_mem_take hy)⟩
  rw [List.length_take] at hj
  rw [Nat.zero_add, h.cellAt j (by omega)]
  simp [u32s, List.getD_eq_getElem?_getD, show j < l.length by omega, show j < k by omega]
/-- the rest of a row behind k, as a slice of it is made -/
theorem u32at_rest {w : World} {B c g : Nat} {l : List Nat} (h : w.ownsRow B 28 1 (.slice (some ⟨g, 0, none⟩) l.length c) l.length (u32s l)) (hl : ∀ y ∈ l, y < 4294967296) (k : Nat) : U32At w (if c = k then some ⟨g, 0, none⟩ else some ⟨g, k, none⟩) (l.drop k) := by
  by_cases e : c = k
  · have hc : l.length ≤ c := by
      rcases h.2 with ⟨hv, hn⟩ | ⟨g2, cap, cur, hv, hB, hc, hn, hcm, hs, ht⟩
      · simp at hv
      · simp only [Value.slice.injEq] at hv; omega
    rw [if_pos e, List.drop_eq_nil_of_le (by omega)]
    exact ⟨fun j hj => by simp at hj, fun y hy => by simp at hy⟩
  · rw [if_neg e]
    exact u32at_part h hl k
end Go.Proofs.Ytkhfofpbmnapjaa
set_option linter.unusedVariables false
namespace Go.Proofs.Ytkhfofpbmnapjaa
open Go.RowKit

structure TB (I : AImpl) (B : Nat) (w0 w : World) (p x : Value) (A : Ar) (held : Nat → Nat) (l : List Nat) : Prop where
  has : ∃ F, I.Is w p A 0 F ∧ (∀ k, F k → B ≤ k) ∧ ∀ k, x.ownBlock = some k → ¬ F k
  inv : A.Inv [] held
  agg : A.Agg
  below : Below B w0 w
  hB : B ≤ w.heap.size
  row : w.ownsRow B 28 1 x l.length (u32s l)
theorem idx_lt4 {A : Ar} {l : List Nat} (h : A.Inv [] (hof l)) : ∀ y ∈ l, y < 4294967296 := fun y hy => by
  rcases held_idx h (.inr hy) with h5 | h5
  · omega
  · have := h.ok.on y h5; have := h.ok.cap2; omega
theorem held_get {l : List Nat} {j : Nat} (h : j < l.length) : (u32s l)[j]? = some (.int .u32 ((l.getD j 0 : Nat) : Int)) := by
  simp [u32s, List.getD_eq_getElem?_getD, h]
section
variable {I : AImpl} {B : Nat} {w w' w0 : World} {p x : Value} {A A' : Ar} {held held' : Nat → Nat} {l : List Nat}
theorem TB.calm (h : TB I B w0 w p x A held l) (hb : Below w.heap.size w w') : TB I B w0 w' p x A held l := by
  obtain ⟨F, h1, h2, h4⟩ := h.has
  exact ⟨⟨F, I.below h1 hb, h2, h4⟩, h.inv, h.agg, h.below.trans (hb.mono h.hB), Nat.le_trans h.hB hb.size, row_below h.row hb⟩
theorem TB.step {F F' : Nat → Prop} (h : TB I B w0 w p x A held l) (hF : ∀ k, F k → B ≤ k) (hx : ∀ k, x.ownBlock = some k → ¬ F k) (ha : Alters F F' w w') (hs : I.Is w' p A' 0 F') (hi : A'.Inv [] held') (hg : A'.Agg) : TB I B w0 w' p x A' held' l := by
  have h1 := ha.apart (G := fun k => x.ownBlock = some k) (fun k hk => ⟨(row_lt h.row k hk).2, hx k hk⟩)
  exact ⟨⟨F', hs, ha.from h.hB hF, fun k hk => (h1 k hk).2⟩, hi, hg, ha.below h.below h.hB hF, Nat.le_trans h.hB ha.size, ha.row h.row hx⟩
/-- the row of held references grows by an append to it -/
theorem TB.grew {l' : List Nat} {v : Value} (h : TB I B w0 w p x A held l) (hr : w'.ownsRow B 28 1 v l'.length (u32s l')) (hg : w.grownBy w' x.ownBlock) (hv : v.ownBlock = x.ownBlock ∨ v.ownBlock = some w.heap.size) :
    TB I B w0 w' p v A held l' := by
  obtain ⟨F, h1, h2, h4⟩ := h.has
  refine ⟨⟨F, I.keep h1 fun k hk => hg.block k (I.dom h1 k hk) fun e => h4 k e.symm hk, h2, fun k hk hF => ?_⟩, h.inv, h.agg, h.below.grown hg h.hB (row_from h.row), Nat.le_trans h.hB hg.size, hr⟩
  rcases hv with e | e
  · exact h4 k (e ▸ hk) hF
  · rw [e] at hk; simp at hk; have := I.dom h1 k hF; omega
theorem TB.renew {l' : List Nat} {v : Value} (h : TB I B w0 w p x A held l) (hr : w'.ownsRow w.heap.size 28 1 v l'.length (u32s l')) (hb : Below w.heap.size w w') : TB I B w0 w' p v A held l' := by
  obtain ⟨F, h1, h2, h4⟩ := h.has
  refine ⟨⟨F, I.below h1 hb, h2, fun k hk hF => ?_⟩, h.inv, h.agg, h.below.trans (hb.mono h.hB), Nat.le_trans h.hB hb.size, row_mono hr h.hB⟩
  have := row_from hr k hk; have := I.dom h1 k hF; omega
theorem tb_release (h : TB I B w0 w p x A (hof l) l) {k : Nat} (hk : k < l.length) :
    Calls Try.prog 47 #[p, .int .u32 ((l.getD k 0 : Nat) : Int)] w (fun e w' => ∃ A' : Ar, ∃ m : Nat, A'.σ.cap = A.σ.cap ∧ e = .returned (.tuple #[.int .i64 (m : Int), .int .i64 0]) ∧ TB I B w0 w' p x A' (hof (l.take k ++ l.drop (k + 1))) l) := by
  obtain ⟨F, h1, h2, h4⟩ := h.has
  have hmem := getD_in hk
  have hidx := held_idx h.inv (.inr hmem)
  obtain ⟨i, hI⟩ : ∃ i, l.getD k 0 = i := ⟨_, rfl⟩
  rw [hI] at hmem hidx ⊢
  have hi4 : i < 4294967296 := by
    rcases hidx with h5 | h5
    · omega
    · have := h.inv.ok.on i h5; have := h.inv.ok.cap2; omega
  by_cases h0 : i = 0
  · subst h0
    refine (I.release p A 0 F 0 (hof l) w h1 (by decide) (fun _ => h.inv.give0)).mono ?_
    rintro e w1 ⟨F', hal, _, h5⟩
    obtain ⟨rfl, h6⟩ := h5 (.inl rfl)
    rw [(gone_zero A).1] at h6
    refine ⟨A, 0, rfl, ?_, by rw [hof_erase0 hk hI]; exact h.step h2 h4 hal h6 h.inv h.agg⟩
    rw [(gone_zero A).2]
  · have hon : A.σ.on i = true := by rcases hidx with h8 | h8; exact absurd h8 h0; exact h8
    have hg := h.inv.give (hof_pos hmem h0)
    have hgo := Ar.gone_ok hg h.agg
    refine (I.release p A 0 F i (less (hof l) i) w h1 hi4 (fun _ => hg)).mono ?_
    rintro e w1 ⟨F', hal, _, h5⟩
    obtain ⟨rfl, h6⟩ := h5 hidx
    exact ⟨A.gone i, A.freed i, hgo.2.2.1, rfl, by rw [hof_erase hk hI h0]; exact h.step h2 h4 hal h6 hgo.1 hgo.2.1⟩
theorem hof_len (l : List Nat) (j : Nat) : hof l j ≤ l.length := by
  unfold hof
  split
  · exact Nat.zero_le _
  · exact List.count_le_length
def TBMade (I : AImpl) (B : Nat) (w0 : World) (p x : Value) (A : Ar) (l : List Nat) (e : Ending) (w' : World) : Prop :=
  ∃ (A' : Ar) (i : Nat) (er : Int) (l' : List Nat), A'.σ.cap = A.σ.cap ∧ e = .returned (.tuple #[.int .u32 (i : Int), .int .i64 er]) ∧ TB I B w0 w' p x A' (hof l') l ∧ i < 4294967296 ∧ ((er = 0 ∧ l' = l ++ [i]) ∨ (er = 2 ∧ l' = l))
theorem tb_make (h : TB I B w0 w p x A (hof l) l) {key val : Int} {a b : Nat} (k1 : -9223372036854775808 ≤ key ∧ key ≤ 9223372036854775807) (k2 : -9223372036854775808 ≤ val ∧ val ≤ 9223372036854775807) (h1 : a ∈ l) (h2 : b ∈ l) (hc : A.σ.cap ≤ 30) (hll : l.length ≤ 1000000) :
    Calls Try.prog 25 #[p, .int .i64 key, .int .i64 val, .int .u32 (a : Int), .int .u32 (b : Int)] w (TBMade I B w0 p x A l) := by
  obtain ⟨F, g1, g2, g4⟩ := h.has
  have hl := held_idx h.inv (.inr h1)
  have hr := held_idx h.inv (.inr h2)
  have hs := size_fits h.inv h.agg hc key val hl hr
  refine (I.make p A 0 F key val a b (hof l) w g1 h.inv h.agg (fun j => Nat.le_trans (hof_len l j) (by omega)) k1.1 k1.2 k2.1 k2.2 (idx_lt4 h.inv a h1) (idx_lt4 h.inv b h2)).mono ?_
  rintro e w1 ⟨F', hal, _, h5, h6⟩
  cases hf : A.σ.free with
  | nil =>
    obtain ⟨rfl, h7⟩ := h5 ⟨hl, hr, hs⟩ hf
    exact ⟨A, 0, 2, l, rfl, rfl, h.step g2 g4 hal h7 h.inv h.agg, by decide, .inr ⟨rfl, rfl⟩⟩
  | cons i t =>
    obtain ⟨rfl, h7⟩ := h6 ⟨hl, hr, hs⟩ i t hf
    have him := (h.inv.ok.free i).1 (by rw [hf]; simp)
    have hcap := h.inv.ok.cap2
    refine ⟨A.made i t (A.node key val a b), i, 0, l ++ [i], rfl, rfl, ?_, by omega, .inl ⟨rfl, rfl⟩⟩
    rw [hof_more l (by omega)]
    exact h.step g2 g4 hal h7 (h.inv.made (x := A.node key val a b) hf hl hr) (h.agg.made h.inv hf hl hr hs)
end
/-- the steps that came in -/
structure Step6 (w : World) (a : Option Addr) (k b off : Nat) (dr : Bool) (key val x y : Int) : Prop where
  addr : a = some ⟨b, off, none⟩
  lt : b < w.heap.size
  c0 : w.cell? ⟨b, off + k * 5, none⟩ = some (.bool dr)
  c1 : w.cell? ⟨b, off + k * 5 + 1, none⟩ = some (.int .i64 key)
  c2 : w.cell? ⟨b, off + k * 5 + 2, none⟩ = some (.int .i64 val)
  c3 : w.cell? ⟨b, off + k * 5 + 3, none⟩ = some (.int .i64 x)
  c4 : w.cell? ⟨b, off + k * 5 + 4, none⟩ = some (.int .i64 y)
def I64 (x : Int) : Prop := -9223372036854775808 ≤ x ∧ x ≤ 9223372036854775807
def Steps6 (w : World) (a : Option Addr) (n : Nat) : Prop :=
  ∀ r, r < n → ∃ b off dr key val x y, Step6 w a r b off dr key val x y ∧ I64 key ∧ I64 val ∧ I64 x ∧ I64 y
theorem Step6.below {w w' : World} {a : Option Addr} {k b off : Nat} {dr : Bool} {key val x y : Int} (hc : Step6 w a k b off dr key val x y) (hb : Below w.heap.size w w') : Step6 w' a k b off dr key val x y := by
  have hcell : ∀ o, w'.cell? ⟨b, o, none⟩ = w.cell? ⟨b, o, none⟩ := fun o => hb.cell (p := ⟨b, o, none⟩) hc.lt
  exact ⟨hc.addr, Nat.lt_of_lt_of_le hc.lt hb.size, (hcell _).trans hc.c0, (hcell _).trans hc.c1, (hcell _).trans hc.c2, (hcell _).trans hc.c3, (hcell _).trans hc.c4⟩
theorem Steps6.below {w w' : World} {a : Option Addr} {n : Nat} (h : Steps6 w a n) (hb : Below w.heap.size w w') : Steps6 w' a n := by
  intro r hr
  obtain ⟨b, off, dr, key, val, x, y, hc, h1⟩ := h r hr
  exact ⟨b, off, dr, key, val, x, y, hc.below hb, h1⟩
end Go.Proofs.Ytkhfofpbmnapjaa
