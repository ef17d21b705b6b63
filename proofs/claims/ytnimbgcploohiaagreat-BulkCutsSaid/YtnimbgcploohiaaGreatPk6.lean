/- Of the proofs of BulkCuts, BulkPartsJoin: ChkS, SoundW, ScnMut, RefRsv, Got, JnAw, RefOut, RkCon, BkCon, Near, NearP, BkCol, Box8, Ins, HeldG. -/
import Derived.Test.YtnimbgcploohiaaGreatPk1
import Derived.Test.YtnimbgcploohiaaGreatPk2
import Derived.Test.YtnimbgcploohiaaGreatPk3
import Derived.Test.YtnimbgcploohiaaGreatPk4
import Derived.Test.YtnimbgcploohiaaGreatPk5
import Derived.Deep.DeepCutAuto
import Derived.Deep.RegionHeld3
set_option linter.unusedVariables false
namespace Go.Proofs.YtnimbgcploohiaaGreat
open Go.RowKit
theorem fInfo : (Tryz.prog.info? 142).map (fun i => (i.zero, i.size, i.bytes)) = some (some (.agg #[.int .i64 0, .int .u32 0, .int .i64 0, .int .i64 0]), 4, 32) := by kernel_rfl
theorem i64_is' (n : Int) : IntKind.i64.wrap n = wrap64 n := by rw [IntKind.wrap_i64]; unfold wrap64; rfl
structure CSt (Z : Nat) (w2 : World) (l : List Fd) (v : Value) (wr : World) : Prop where
  val : ∃ a c, v = .slice a l.length c
  row : wr.ownsRow Z 142 4 v l.length (fdsV l)
  below : Below Z w2 wr
section
variable {Z : Nat} {w2 wr w' : World} {l : List Fd} {v v' : Value}
theorem CSt.from (h : CSt Z w2 l v wr) (hb : Below wr.heap.size wr w') (hZ : w2.heap.size = Z) : CSt Z w2 l v w' :=
  ⟨h.val, row_below h.row hb, h.below.trans (hb.mono (by have := h.below.size; omega))⟩
theorem CSt.start (w2 : World) (hZ : w2.heap.size = Z) : CSt Z w2 [] (.slice none 0 0) w2 := ⟨⟨none, 0, rfl⟩, World.ownsRow_nil _ _ _ _, Below.refl _ _⟩
theorem cell_new4 (w : World) (x y z u : Value) (t : TypeId) : ∀ j v, [x, y, z, u][j]? = some v → (w.alloc (.cells #[x, y, z, u] t)).cell? ((⟨w.heap.size, 0, none⟩ : Addr).add j) = some v := by
  intro j v hu
  match j, hu with
  | 0, hu => simp at hu; subst hu; simp [Addr.add]
  | 1, hu => simp at hu; subst hu; simp [Addr.add]
  | 2, hu => simp at hu; subst hu; simp [Addr.add]
  | 3, hu => simp at hu; subst hu; simp [Addr.add]
theorem fd_one (f : Fd) : ∀ u ∈ fdV f, u.oneCell' = true := by
  intro u hu
  simp [fdV] at hu
  rcases hu with rfl | rfl | rfl | rfl <;> rfl
/-- blocks of other types stay -/
def Others (w w' : World) : Prop := ∀ (k : Nat) (cur : Array Value) (t : TypeId), w.heap[k]? = some (.cells cur t (0, 0)) → t ≠ 142 → w'.heap[k]? = some (.cells cur t (0, 0))
theorem others_grown {n : Nat} {xs : List Value} (h : wr.ownsRow Z 142 4 v n xs) (hg : wr.grownBy w' v.ownBlock) : Others wr w' := by
  intro k cur t hk ht
  rw [hg.block k (Array.getElem?_eq_some_iff.1 hk).1 fun e => ?_]
  · exact hk
  rcases h.2 with ⟨rfl, _⟩ | ⟨g2, cap2, cur2, rfl, _, hc2, _⟩
  · simp [Value.ownBlock] at e
  · simp only [Value.ownBlock, Option.some.injEq] at e
    subst e
    rw [hk] at hc2
    simp at hc2
    exact ht hc2.2
theorem wpList_append_fd {ops : Array Oper} {rest : List Oper} {o : Oper} {a : Act} {w : World} {Q : Exit → Act → World → Prop} (hgd : o.guard = none) (s x : Operand)
    (ho : o.op = .call { callee := .builtin .append, args := #[s, x], argTypes := #[121, 121] })
    (hc : CSt Z w2 l v w) (hZ : w2.heap.size = Z) (hs : a.eval s = v) (f : Fd) (g : Nat) (hx : a.eval x = .slice (some ⟨g, 0, none⟩) 1 1)
    (hn : ∀ j u, (fdV f)[j]? = some u → w.cell? ((⟨g, 0, none⟩ : Addr).add j) = some u) (hl : l.length ≤ 100000000)
    (h : ∀ v' w', CSt Z w2 (l ++ [f]) v' w' → Others w w' → wpList Tryz.prog ops Q rest (a.put o.dst v') w') : wpList Tryz.prog ops Q (o :: rest) a w := by
  obtain ⟨i, ji, jz0, jz1, jz2⟩ := info_parts fInfo
  refine wpList_append_own _ hgd s x 121 ho Z 142 i (.agg #[.int .i64 0, .int .u32 0, .int .i64 0, .int .i64 0]) 4 32 Tryz.underlying121 ji jz0 jz1 jz2 rfl (by decide) v l.length (fdsV l) hs hc.row ⟨g, 0, none⟩ 1 1 (fdV f) hx rfl hn (fd_one f) (by unfold maxLen; omega) (by omega) (by have := hc.below.size; omega) ?_
  intro v' w' ho' hg _
  have h1 : CSt Z w2 (l ++ [f]) v' w' := by
    obtain ⟨a', c', hv⟩ := row_val ho'
    refine ⟨⟨a', c', by rw [List.length_append]; exact hv⟩, ?_, hc.below.grown hg (by have := hc.below.size; omega) (row_from hc.row)⟩
    rw [List.length_append, fdsV_snoc]
    exact ho'
  exact h v' w' h1 (others_grown hc.row hg)
/-- the cells of a block that holds a slot's description -/
theorem sl_cells {w : World} {g : Nat} {s : Sl} {t : TypeId} (h : w.heap[g]? = some (.cells (slV s).toArray t (0, 0))) :
    w.cell? ⟨g, 0, none⟩ = some (.bool s.on) ∧ w.cell? ⟨g, 1, none⟩ = some (.int .i64 s.cnt) ∧ w.cell? ⟨g, 2, none⟩ = some (.int .u32 s.gen) ∧
    w.cell? ⟨g, 3, none⟩ = some (.int .i64 s.nd.key) ∧ w.cell? ⟨g, 4, none⟩ = some (.int .i64 s.nd.val) ∧ w.cell? ⟨g, 5, none⟩ = some (.int .u32 (s.nd.left : Int)) ∧
    w.cell? ⟨g, 6, none⟩ = some (.int .u32 (s.nd.right : Int)) ∧ w.cell? ⟨g, 7, none⟩ = some (.int .i64 s.nd.size) ∧ w.cell? ⟨g, 8, none⟩ = some (.int .i64 s.nd.sum) ∧
    w.cell? ⟨g, 9, none⟩ = some (.int .i64 s.nd.mn) ∧ w.cell? ⟨g, 10, none⟩ = some (.int .i64 s.nd.mx) := by
  refine ⟨?_, ?_, ?_, ?_, ?_, ?_, ?_, ?_, ?_, ?_, ?_⟩ <;> (rw [cell_of_row _ _ _ _ _ _ h]; rfl)
/-- the row of findings beside the description of the slot at hand -/
structure RSt (Z : Nat) (w2 : World) (l : List Fd) (v : Value) (sb : Nat) (s : Sl) (wr : World) : Prop where
  st : CSt Z w2 l v wr
  box : wr.heap[sb]? = some (.cells (slV s).toArray 77 (0, 0))
variable {sb : Nat} {s : Sl}
theorem RSt.from (h : RSt Z w2 l v sb s wr) (hb : Below wr.heap.size wr w') (hZ : w2.heap.size = Z) : RSt Z w2 l v sb s w' :=
  ⟨h.st.from hb hZ, (hb.block _ (Array.getElem?_eq_some_iff.1 h.box).1).trans h.box⟩
theorem RSt.push {w3 : World} {l' : List Fd} (h : RSt Z w2 l v sb s wr) (hb : Below wr.heap.size wr w') (hc : CSt Z w2 l' v' w3) (ho : Others w' w3) : RSt Z w2 l' v' sb s w3 :=
  ⟨hc, ho _ _ _ ((hb.block _ (Array.getElem?_eq_some_iff.1 h.box).1).trans h.box) (by decide)⟩
theorem below_new (w : World) (o : Obj) : Below w.heap.size w (w.alloc o) := (Below.refl _ _).alloc (Nat.le_refl _) _
theorem below_chain {a b c : World} (h : Below a.heap.size a b) (h' : Below b.heap.size b c) : Below a.heap.size a c := h.trans (h'.mono h.size)
theorem opt_yes {b : Bool} {f : Fd} (h : b = true) : opt b f = [f] := by unfold opt; rw [if_pos h]
theorem opt_no {b : Bool} {f : Fd} (h : b = false) : opt b f = [] := by unfold opt; rw [h]; rfl
end
end Go.Proofs.YtnimbgcploohiaaGreat
set_option linter.unusedVariables false
namespace Go.Proofs.YtnimbgcploohiaaGreat
open Go.RowKit
def FdsRes (w : World) (l : List Fd) (e : Ending) (w' : World) : Prop :=
  ∃ a c, e = .returned (.slice a l.length c) ∧ w'.ownsRow w.heap.size 142 4 (.slice a l.length c) l.length (fdsV l) ∧ Below w.heap.size w w'
/-- what is asked of the reference's Check -/
def CheckSpec : Prop := ∀ (w : World) (a b ra : Option Addr) (n c d rc : Nat) (S : Nat → Sl) (fr rs : List Nat), SlotsAt w a n S → U32At w b fr → U32At w ra rs → n ≤ 65536 → fr.length ≤ 1000000 → rs.length ≤ 1000000 → ∀ R : Nat → Bool, (∀ j, j < n → (R j = true ↔ Rch S n rs (j + 1))) →
    Calls Tryz.prog 86 #[.agg #[.slice a n c, .slice b fr.length d], .slice ra rs.length rc] w (FdsRes w (chk S n fr rs R))
set_option maxHeartbeats 1000000 in
set_option maxRecDepth 100000 in
theorem clean_any (hchk : CheckSpec) {w : World} {a b ra : Option Addr} {n c d rc : Nat} {S : Nat → Sl} (fr rs : List Nat) (h : SlotsAt w a n S) (hf : U32At w b fr) (hr : U32At w ra rs) (hn : n ≤ 65536) (hfl : fr.length ≤ 1000000) (hl : rs.length ≤ 1000000) (R : Nat → Bool) (hR : ∀ j, j < n → (R j = true ↔ Rch S n rs (j + 1))) (h0 : chk S n fr rs R = []) :
    Calls Tryz.prog 50 #[.agg #[.slice a n c, .slice b fr.length d], .slice ra rs.length rc] w (Calm w (.bool true)) := by
  have hb := below_new w (Obj.cells #[Value.slice a n c, Value.slice b fr.length d] 40)
  have hh := h.below hb
  have hff := hf.below hb
  have hrr := hr.below hb
  obtain ⟨hc0, hc1⟩ := (DBox.new w a b n c fr.length d).cells
  obtain ⟨M, hM⟩ : ∃ M, fr.length = M := ⟨_, rfl⟩
  obtain ⟨L, hL⟩ : ∃ L, rs.length = L := ⟨_, rfl⟩
  have hcall := hchk _ a b ra n c d rc S fr rs hh hff hrr hn hfl hl R hR
  rw [h0] at hcall
  rw [hM, hL] at hcall
  rw [hM] at hc0 hc1 hb ⊢
  rw [hL]
  have HC := Lib.hid hcall
  have HB := Lib.hid hb
  clear h hf hr hh hff hrr hR h0 hcall hM hL hb hfl hl
  go_enter Tryz.func50, Tryz.ntmps50
  go_wp2_with fail
  refine HC.out.mono ?_
  rintro e w2 ⟨ra', rc', rfl, _, hb2⟩
  have hbb := HB.out.trans (hb2.mono HB.out.size)
  have HBB := Lib.hid hbb
  clear hb2 hbb hc0 hc1
  rw [show ([] : List Fd).length = 0 from rfl]
  go_wp2
  go_ret
  exact ⟨rfl, HBB.out⟩
set_option maxHeartbeats 1000000 in
set_option maxRecDepth 100000 in
theorem sound_any (hchk : CheckSpec) (I : AImpl) {w : World} {p : Value} {A : Ar} {rd : Int} {F : Nat → Prop} {l : List Nat} {ra : Option Addr} {rc : Nat} (h : I.Is w p A rd F) (hI : A.Inv [] (hof l)) (hA : A.Agg) (hr : U32At w ra l) (hl : l.length ≤ 1000000) (hi : ∀ x ∈ l, x = 0 ∨ A.σ.on x = true) :
    Calls Tryz.prog 20 #[p, .slice ra l.length rc] w (Calm w (.bool true)) := by
  obtain ⟨L, hL⟩ : ∃ L, l.length = L := ⟨_, rfl⟩
  have HL := Lib.hid hL
  rw [hL]
  have HR := Lib.hid hr
  have HI := Lib.hid hI
  have HCK : Hid (∀ R : Nat → Bool, (∀ j, j < A.σ.cap → (R j = true ↔ Rch A.sl A.σ.cap l (j + 1))) → chk A.sl A.σ.cap A.σ.free l R = []) := fun R hR => chk_sound hI hA hi hR
  have HX := Lib.hid h
  clear hL hr hI hA hi h
  go_enter Tryz.func20, Tryz.ntmps20
  go_wp2_with fail
  refine (I.dump p A rd F w HX.out).mono ?_
  rintro e w2 ⟨a, c, b, d, rfl, hs, hf, hb⟩
  have hlen := HI.out.ok.len
  have hcap := HI.out.ok.cap2
  have hsl := slots_at HI.out hs
  have hfr := row_u32 hf fun y hy => by have := (HI.out.ok.free y).1 hy; omega
  have hrr := HR.out.below hb
  have hcl := clean_any hchk (b := b) (c := c) (d := d) (rc := rc) A.σ.free l hsl hfr hrr hcap (by omega) hl (fun j => @decide (Rch A.sl A.σ.cap l (j + 1)) (Classical.propDecidable _)) (fun j hj => by simp) (HCK.out _ (fun j hj => by simp))
  rw [HL.out] at hcl
  have HCL := Lib.hid hcl
  have HB := Lib.hid hb
  clear hs hf hb hlen hcap hsl hfr hrr hcl hl
  go_wp2_with fail
  refine HCL.out.mono ?_
  rintro e w3 ⟨rfl, hb3⟩
  have hbb := HB.out.trans (hb3.mono HB.out.size)
  have HBB := Lib.hid hbb
  clear hb3 hbb
  go_wp2
  go_ret
  exact ⟨rfl, HBB.out⟩
end Go.Proofs.YtnimbgcploohiaaGreat
set_option linter.unusedVariables false
set_option linter.unusedSimpArgs false
namespace Go.Proofs.YtnimbgcploohiaaGreat
open Go.RowKit
theorem MR.stepA {I : AImpl} {B : Nat} {w0 w w' : World} {p : Value} {A A' : Ar} {rd rd' : Int} {G F F' : Nat → Prop} (h : MR I B w0 w p A rd G) (hF : ∀ k, F k → B ≤ k) (hG : ∀ k, G k → k < w.heap.size ∧ ¬ F k) (hal : Alters F F' w w') (hI : I.Is w' p A' rd' F') : MR I B w0 w' p A' rd' G ∧ Keeps G w w' :=
  ⟨⟨⟨F', hI, hal.from h.hB hF, hal.apart hG⟩, hal.below h.below h.hB hF, Nat.le_trans h.hB hal.size⟩, fun k hk => hal.block k (hG k hk).1 (hG k hk).2⟩
/-- a call that alters the arena: what it returns and leaves -/
def Mut (I : AImpl) (p : Value) (F : Nat → Prop) (Q : Ending → Ar → Int → Prop) (w : World) (e : Ending) (w' : World) : Prop :=
  ∃ F' A' rd', Alters F F' w w' ∧ I.Is w' p A' rd' F' ∧ Q e A' rd'
section
variable {I : AImpl} {B : Nat} {w0 w w' : World} {p : Value} {A : Ar} {rd rd' : Int} {rs : List Row} {bs : List (Nat × Obj)}
theorem Scn.stepA {A' : Ar} (h : Scn I B w0 w p A rd rs bs) (hm : MR I B w0 w' p A' rd' (SG rs bs)) (hk : Keeps (SG rs bs) w w') : Scn I B w0 w' p A' rd' rs bs :=
  ⟨hm, fun r hr => row_keep (h.rows r hr) fun k hk' => hk k (.inl ⟨r, hr, hk'⟩), fun b hb => ⟨(h.boxes b hb).1, (hk b.1 (.inr ⟨b, hb, rfl⟩)).trans (h.boxes b hb).2⟩, h.rr, h.bb, h.rb⟩
theorem Scn.mut {f : FuncId} {args : Array Value} {Q : Ending → Ar → Int → Prop} (h : Scn I B w0 w p A rd rs bs) (hc : ∀ F, I.Is w p A rd F → Calls Tryz.prog f args w (Mut I p F Q w)) :
    Calls Tryz.prog f args w fun e w' => ∃ A' rd', Q e A' rd' ∧ Scn I B w0 w' p A' rd' rs bs := by
  obtain ⟨F, f1, f2, f3⟩ := h.mr.has
  refine (hc F f1).mono ?_
  rintro e w1 ⟨F', A', rd', hal, hI, hq⟩
  have hst := h.mr.stepA f2 f3 hal hI
  exact ⟨A', rd', hq, h.stepA hst.1 hst.2⟩
theorem Scn.sound (hchk : CheckSpec) (h : Scn I B w0 w p A rd rs bs) {l : List Nat} {ra : Option Addr} {L rc : Nat} (hv : A.Inv [] (hof l)) (hA : A.Agg) (hr : U32At w ra l) (hL : l.length = L) (hl : L ≤ 1000000) (hi : ∀ x ∈ l, x = 0 ∨ A.σ.on x = true) :
    Calls Tryz.prog 20 #[p, .slice ra L rc] w (Calm w (.bool true)) := by
  subst hL
  obtain ⟨F, f1, _⟩ := h.mr.has
  exact sound_any hchk I f1 hv hA hr hl hi
end
theorem hof_nil : hof [] = fun _ => 0 := by
  funext i
  unfold hof
  split <;> simp
theorem hof_le (l : List Nat) (j : Nat) : hof l j ≤ l.length := by
  unfold hof
  split
  · exact Nat.zero_le _
  · exact List.count_le_length
end Go.Proofs.YtnimbgcploohiaaGreat
set_option linter.unusedVariables false
set_option linter.unusedSimpArgs false
namespace Go.Proofs.YtnimbgcploohiaaGreat
open Go.RowKit
def in64 (x : Int) : Prop := -9223372036854775808 ≤ x ∧ x ≤ 9223372036854775807
def vld (x : Int) : Prop := 0 ≤ x ∧ x ≤ 65536
instance (x : Int) : Decidable (vld x) := by unfold vld; exact inferInstance
def needI (a b c more extra factor : Int) : Int := if vld a ∧ vld b ∧ vld c then extra + factor * (xhI (a + b + c + more) + 2) else -1
theorem xhI_in {n : Int} (h0 : 0 ≤ n) (h1 : n ≤ 1000000) : 0 ≤ xhI n ∧ xhI n < 80 := by
  unfold xhI
  rw [if_pos ⟨h0, by omega⟩]
  have := (xh_spec (n := n.toNat) (by omega)).2.1
  omega
def joinI (l r : Int) : Int := needI l r 0 1 0 4
def splitI (n : Int) : Int := needI n 0 0 0 0 12
end Go.Proofs.YtnimbgcploohiaaGreat
set_option linter.unusedVariables false
set_option linter.unusedSimpArgs false
namespace Go.Proofs.YtnimbgcploohiaaGreat
open Go.RowKit
/-- j is the tree t with the entries l in B; what A had stays; one reference more, to j -/
structure Got (A : Ar) (held : Nat → Nat) (B : Ar) (j : Nat) (t : Tr) (l : List En) : Prop where
  kept : A.Kept B
  gen : ∀ i, A.σ.on i = true → B.σ.gen i = A.σ.gen i
  inv : B.Inv [] (pls held j)
  agg : B.Agg
  sub : Sub B j t
  ents : t.ents B.nd = l
  bal : t.bal = true
theorem Got.tree {A B : Ar} {held : Nat → Nat} {j : Nat} {t : Tr} {l : List En} (h : Got A held B j t l) (hu : Up l) : TreeAt B j t l := ⟨⟨_, h.inv⟩, h.agg, h.sub, h.bal, h.ents, hu⟩
theorem TreeAt.kept {A B : Ar} {held : Nat → Nat} {i : Nat} {t : Tr} {l : List En} (h : TreeAt A i t l) (hk : A.Kept B) (hB : B.Inv [] held) (hg : B.Agg) : TreeAt B i t l :=
  ⟨⟨_, hB⟩, hg, h.sub.kept hk, h.bal, (Tr.ents_kept hk h.sub).trans h.ents, h.up⟩
theorem hof_pls (l : List Nat) (i : Nat) : pls (hof l) i = hof (l ++ [i]) := by
  by_cases h : i = 0
  · subst h; rw [pls_zero, hof_zero]
  · unfold pls; rw [if_neg h, hof_more l h]
/-- numbers of 64 bits -/
def WfL (l : List En) : Prop := ∀ y ∈ l, i64R y.key ∧ i64R y.val
def AllLt (l : List En) (k : Int) : Prop := ∀ y ∈ l, y.key < k
def AllGt (l : List En) (k : Int) : Prop := ∀ y ∈ l, k < y.key
/-- how often Join and Concat may read -/
def joinBd (n m : Nat) : Int := 60 * ((xh (n + m + 1) : Int) + 2)
def JoinQ (A : Ar) (rd : Int) (held : Nat → Nat) (L R : Nat) (ll lr : List En) (e : En) (en : Ending) (B : Ar) (rd' : Int) : Prop :=
  rd ≤ rd' ∧ rd' ≤ rd + joinBd ll.length lr.length ∧ (
  (¬ (AllLt ll e.key ∧ AllGt lr e.key) ∧ en = .returned (.tuple #[.int .u32 0, .int .i64 7]) ∧ B = A) ∨
  ((AllLt ll e.key ∧ AllGt lr e.key) ∧ (A.σ.free.length : Int) < joinI (ll.length : Int) (lr.length : Int) ∧ en = .returned (.tuple #[.int .u32 0, .int .i64 2]) ∧ B = A) ∨
  ((AllLt ll e.key ∧ AllGt lr e.key) ∧ joinI (ll.length : Int) (lr.length : Int) ≤ (A.σ.free.length : Int) ∧ ∃ (j : Nat) (t : Tr), en = .returned (.tuple #[.int .u32 (j : Int), .int .i64 0]) ∧ Got A held B j t (ll ++ e :: lr) ∧
    (Proofs.YtnimbgcploohiaaGreat.bal (ll.length : Int) (lr.length : Int) = true → (B.nd j).left = L ∧ (B.nd j).right = R ∧ B.σ.free.length + 1 = A.σ.free.length)))
def CatQ (A : Ar) (rd : Int) (held : Nat → Nat) (L R : Nat) (ll lr : List En) (en : Ending) (B : Ar) (rd' : Int) : Prop :=
  rd ≤ rd' ∧ rd' ≤ rd + joinBd ll.length lr.length ∧ (
  ((ll = [] ∨ lr = []) ∧ ∃ t : Tr, en = .returned (.tuple #[.int .u32 ((L + R : Nat) : Int), .int .i64 0]) ∧ Got A held B (L + R) t (ll ++ lr) ∧ B.σ.free.length = A.σ.free.length) ∨
  ((ll ≠ [] ∧ lr ≠ []) ∧ ¬ Up (ll ++ lr) ∧ en = .returned (.tuple #[.int .u32 0, .int .i64 7]) ∧ B = A) ∨
  ((ll ≠ [] ∧ lr ≠ []) ∧ Up (ll ++ lr) ∧ (A.σ.free.length : Int) < joinI (ll.length : Int) (lr.length : Int) ∧ en = .returned (.tuple #[.int .u32 0, .int .i64 2]) ∧ B = A) ∨
  ((ll ≠ [] ∧ lr ≠ []) ∧ Up (ll ++ lr) ∧ joinI (ll.length : Int) (lr.length : Int) ≤ (A.σ.free.length : Int) ∧ ∃ (j : Nat) (t : Tr), en = .returned (.tuple #[.int .u32 (j : Int), .int .i64 0]) ∧ Got A held B j t (ll ++ lr)))
def lowE (l : List En) (k : Int) : List En := l.filter fun y => decide (y.key < k)
def highE (l : List En) (k : Int) : List En := l.filter fun y => decide (k < y.key)
end Go.Proofs.YtnimbgcploohiaaGreat
set_option linter.unusedVariables false
namespace Go.Proofs.YtnimbgcploohiaaGreat
end Go.Proofs.YtnimbgcploohiaaGreat
set_option linter.unusedVariables false
set_option linter.unusedSimpArgs false
namespace Go.Proofs.YtnimbgcploohiaaGreat
open Go.RowKit
end Go.Proofs.YtnimbgcploohiaaGreat
set_option linter.unusedVariables false
set_option linter.unusedSimpArgs false
namespace Go.Proofs.YtnimbgcploohiaaGreat
open Go.RowKit
theorem xh_max {n k : Nat} (hn : n ≤ 2147483647) (h : n < wt (k + 1) - 1) : xh n ≤ k := by
  obtain ⟨a, b, c⟩ := xh_spec hn
  rcases Nat.lt_or_ge k (xh n) with h3 | h3
  · have := wt_mono (show k + 1 ≤ xh n by omega); omega
  · exact h3
theorem xhI_max {n : Int} (h0 : 0 ≤ n) (h1 : n ≤ 152) : 0 ≤ xhI n ∧ xhI n ≤ 14 := by
  have h2 : xh n.toNat ≤ 14 := xh_max (by omega) (by show _ < 153; omega)
  unfold xhI
  rw [if_pos ⟨h0, by omega⟩]
  omega
theorem split_le {n : Int} (h0 : 0 ≤ n) (h1 : n ≤ 151) : splitI n ≤ 192 ∧ 0 ≤ splitI n := by
  have h3 := xhI_max (n := n + 0 + 0 + 0) (by omega) (by omega)
  unfold splitI needI
  have hv : vld n ∧ vld 0 ∧ vld 0 := by unfold vld; omega
  rw [if_pos hv]
  omega
end Go.Proofs.YtnimbgcploohiaaGreat
set_option linter.unusedVariables false
set_option linter.unusedSimpArgs false
namespace Go.Proofs.YtnimbgcploohiaaGreat
open Go.RowKit
def l1 : List En := [⟨1, 10⟩]
end Go.Proofs.YtnimbgcploohiaaGreat
set_option linter.unusedVariables false
set_option linter.unusedSimpArgs false
namespace Go.Proofs.YtnimbgcploohiaaGreat
open Go.RowKit
def outE (l : List En) (lo hi : Int) : List En := l.filter fun e => decide (e.key < lo ∨ hi < e.key)
end Go.Proofs.YtnimbgcploohiaaGreat
set_option linter.unusedVariables false
set_option linter.unusedSimpArgs false
namespace Go.Proofs.YtnimbgcploohiaaGreat
open Go.RowKit
/-- how often may be read -/
def mostJ (n : Nat) : Int := 6 * ((xh n : Int) + 2)
theorem mostJ_le {n : Nat} (h : n ≤ 2147483647) : mostJ n ≤ 492 ∧ 0 ≤ mostJ n := by
  have h1 := (xh_spec h).2.1
  unfold mostJ
  omega
def cntE (l : List En) (lo hi : Int) : Nat := (betE l lo hi).length
theorem cntE_le (l : List En) (lo hi : Int) : cntE l lo hi ≤ l.length := List.length_filter_le _ _
structure RkImpl (I : AImpl) : Prop where
  count : ∀ {p : Value} {A : Ar} {rd : Int} {F : Nat → Prop} {i : Nat} {t : Tr} {l : List En} (lo hi : Int) (w : World), I.Is w p A rd F → TreeAt A i t l → 0 ≤ rd → rd ≤ 1099511627776 → i64R lo → i64R hi →
    Calls Tryz.prog 37 #[p, .int .u32 (i : Int), .int .i64 lo, .int .i64 hi] w (ReadsTo I p A rd F (2 * mostJ l.length) (.int .i64 (cntE l lo hi : Int)) w)
theorem cnt_cons (x : En) (t : List En) (lo hi : Int) : cntE (x :: t) lo hi = cntE t lo hi + (if lo ≤ x.key ∧ x.key ≤ hi then 1 else 0) := by
  unfold cntE betE
  rw [List.filter_cons]
  by_cases h : lo ≤ x.key ∧ x.key ≤ hi
  · simp [h]
  · simp [h]
theorem rk_cons (x : En) (t : List En) (k : Int) : rankE (x :: t) k = rankE t k + (if x.key < k then 1 else 0) := by
  unfold rankE
  rw [List.countP_cons]
  by_cases h : x.key < k <;> simp [h]
theorem cnt_rank : ∀ (l : List En) {lo mid : Int}, lo ≤ mid → cntE l lo mid + rankE l lo = rankE l (mid + 1)
  | [], _, _, _ => rfl
  | x :: t, lo, mid, h1 => by
    have ih := cnt_rank t h1
    rw [cnt_cons, rk_cons, rk_cons]
    by_cases a1 : x.key < lo
    · rw [if_neg (by omega), if_pos a1, if_pos (by omega)]; omega
    · by_cases a2 : x.key < mid + 1
      · rw [if_pos (by omega), if_neg a1, if_pos a2]; omega
      · rw [if_neg (by omega), if_neg a1, if_neg a2]; omega
theorem cnt_none (l : List En) {lo hi : Int} (h : hi < lo) : cntE l lo hi = 0 := by
  unfold cntE betE
  rw [List.length_eq_zero_iff, List.filter_eq_nil_iff]
  intro e _
  simp
  omega
end Go.Proofs.YtnimbgcploohiaaGreat
set_option linter.unusedVariables false
set_option linter.unusedSimpArgs false
namespace Go.Proofs.YtnimbgcploohiaaGreat
open Go.RowKit
/-- the shape of a tree that is built from a list -/
def Tr.mid : Tr → Prop
  | .nil => True
  | .node _ l r => l.size = (l.size + r.size + 1) / 2 ∧ l.mid ∧ r.mid
def bulkBd (n m : Nat) : Int := 12 * ((xh n : Int) + 2) + 4 * (m : Int)
def cutBd (n : Nat) : Int := 240 * ((xh n : Int) + 2)
/-- the first entries -/
def firstE (l : List En) (k : Int) : List En := l.take k.toNat
/-- a call that reads and returns a new row of entries -/
def EnsRes (I : AImpl) (p : Value) (A : Ar) (rd : Int) (F : Nat → Prop) (bd : Int) (P : List En) (w : World) (e : Ending) (w' : World) : Prop :=
  ∃ F' rd' a c, e = .returned (.slice a P.length c) ∧ Alters F F' w w' ∧ I.Is w' p A rd' F' ∧ rd ≤ rd' ∧ rd' ≤ rd + bd ∧ w'.ownsRow w.heap.size 34 2 (.slice a P.length c) P.length (ensV P) ∧ ∀ g, Value.ownBlock (.slice a P.length c) = some g → ¬ F' g
def BuildQ (A : Ar) (rd : Int) (held : Nat → Nat) (l : List En) (en : Ending) (B : Ar) (rd' : Int) : Prop :=
  rd ≤ rd' ∧ rd' ≤ rd + 16 * (l.length : Int) + 64 ∧ (
  (¬ Up l ∧ en = .returned (.tuple #[.int .u32 0, .int .i64 7]) ∧ B = A) ∨
  (Up l ∧ A.σ.free.length < l.length ∧ en = .returned (.tuple #[.int .u32 0, .int .i64 2]) ∧ B = A) ∨
  (Up l ∧ l.length ≤ A.σ.free.length ∧ ∃ (j : Nat) (t : Tr), en = .returned (.tuple #[.int .u32 (j : Int), .int .i64 0]) ∧ Got A held B j t l ∧ t.mid ∧ B.σ.free.length + l.length = A.σ.free.length))
/-- Keep and Drop: the entries want of l -/
def CutQ (A : Ar) (rd : Int) (held : Nat → Nat) (i : Nat) (l want : List En) (en : Ending) (B : Ar) (rd' : Int) : Prop :=
  rd ≤ rd' ∧ rd' ≤ rd + cutBd l.length ∧ (
  (want.length = l.length ∧ en = .returned (.tuple #[.int .u32 (i : Int), .int .i64 0]) ∧ (∃ t, Got A held B i t want) ∧ B.σ.free.length = A.σ.free.length) ∨
  (want.length ≠ l.length ∧ want = [] ∧ en = .returned (.tuple #[.int .u32 0, .int .i64 0]) ∧ Got A held B 0 .nil [] ∧ B.σ.free.length = A.σ.free.length) ∨
  (want.length ≠ l.length ∧ want ≠ [] ∧ (A.σ.free.length : Int) < splitI (l.length : Int) ∧ en = .returned (.tuple #[.int .u32 0, .int .i64 2]) ∧ B = A) ∨
  (want.length ≠ l.length ∧ want ≠ [] ∧ splitI (l.length : Int) ≤ (A.σ.free.length : Int) ∧ ∃ (j : Nat) (t : Tr), en = .returned (.tuple #[.int .u32 (j : Int), .int .i64 0]) ∧ Got A held B j t want))
structure BkImpl (I : AImpl) : Prop where
  build : ∀ {p : Value} {A : Ar} {rd : Int} {F : Nat → Prop} {held : Nat → Nat} {a : Option Addr} {n c : Nat} {l : List En} (w : World), I.Is w p A rd F → A.Inv [] held → A.Agg → (∀ j, held j ≤ 1048000) → EnsAt w a l → l.length = n → n ≤ 65536 → (n ≠ 0 → ∀ b off, a = some ⟨b, off, none⟩ → ¬ F b) → n ≤ c → c ≤ maxLen → 0 ≤ rd → rd ≤ 1099509000000 →
    Calls Tryz.prog 32 #[p, .slice a n c] w (Mut I p F (BuildQ A rd held l) w)
  list : ∀ {p : Value} {A : Ar} {rd : Int} {F : Nat → Prop} {i : Nat} {t : Tr} {l : List En} (w : World), I.Is w p A rd F → TreeAt A i t l → WfL l → 0 ≤ rd → rd ≤ 1099509000000 →
    Calls Tryz.prog 27 #[p, .int .u32 (i : Int)] w (EnsRes I p A rd F (bulkBd l.length l.length) l w)
  range : ∀ {p : Value} {A : Ar} {rd : Int} {F : Nat → Prop} {i : Nat} {t : Tr} {l : List En} (lo hi lim : Int) (w : World), I.Is w p A rd F → TreeAt A i t l → 0 ≤ rd → rd ≤ 1099509000000 → i64R lo → i64R hi → i64R lim →
    Calls Tryz.prog 63 #[p, .int .u32 (i : Int), .int .i64 lo, .int .i64 hi, .int .i64 lim] w (EnsRes I p A rd F (bulkBd l.length (firstE (betE l lo hi) lim).length) (firstE (betE l lo hi) lim) w)
  keep : ∀ {p : Value} {A : Ar} {rd : Int} {F : Nat → Prop} {held : Nat → Nat} {i : Nat} {t : Tr} {l : List En} (lo hi : Int) (w : World), I.Is w p A rd F → A.Inv [] held → (∀ j, held j ≤ 1048000) → TreeAt A i t l → WfL l → 0 ≤ rd → rd ≤ 1099509000000 → i64R lo → i64R hi →
    Calls Tryz.prog 16 #[p, .int .u32 (i : Int), .int .i64 lo, .int .i64 hi] w (Mut I p F (CutQ A rd held i l (betE l lo hi)) w)
  drop : ∀ {p : Value} {A : Ar} {rd : Int} {F : Nat → Prop} {held : Nat → Nat} {i : Nat} {t : Tr} {l : List En} (lo hi : Int) (w : World), I.Is w p A rd F → A.Inv [] held → (∀ j, held j ≤ 1048000) → TreeAt A i t l → WfL l → 0 ≤ rd → rd ≤ 1099509000000 → i64R lo → i64R hi →
    Calls Tryz.prog 15 #[p, .int .u32 (i : Int), .int .i64 lo, .int .i64 hi] w (Mut I p F (CutQ A rd held i l (outE l lo hi)) w)
section
variable {I : AImpl} {B : Nat} {w0 w w' : World} {p : Value} {A : Ar} {rd rd' : Int} {rs : List Row} {bs : List (Nat × Obj)}
/-- a call that reads and makes a row of entries, beside rows and boxes -/
theorem Scn.ens {bd : Int} {P : List En} {f : FuncId} {args : Array Value} (h : Scn I B w0 w p A rd rs bs) (hc : ∀ F, I.Is w p A rd F → Calls Tryz.prog f args w (EnsRes I p A rd F bd P w)) {N : Nat} (hN : P.length = N) :
    Calls Tryz.prog f args w fun e w' => ∃ a c rd', e = .returned (.slice a N c) ∧ Scn I B w0 w' p A rd' (⟨34, 2, .slice a N c, N, ensV P⟩ :: rs) bs ∧ rd ≤ rd' ∧ rd' ≤ rd + bd := by
  subst hN
  obtain ⟨F, f1, f2, f3⟩ := h.mr.has
  refine (hc F f1).mono ?_
  rintro e w1 ⟨F', rd', a, c, rfl, hal, hI, h6, h7, hr, hnF⟩
  have hst := h.mr.step f2 f3 hal hI
  have h1 := h.step hst.1 hst.2
  have hap := hal.apart f3
  refine ⟨a, c, rd', rfl, ⟨⟨⟨F', hI, hal.from h.mr.hB f2, fun k hk => ?_⟩, h1.mr.below, h1.mr.hB⟩, fun r hr' => ?_, h1.boxes, List.pairwise_cons.2 ⟨fun r hr' k hk e' => ?_, h1.rr⟩, h1.bb, fun r hr' b hb' => ?_⟩, h6, h7⟩
  · rcases hk with ⟨r, hr', hk⟩ | hk
    · rcases List.mem_cons.1 hr' with rfl | hr'
      · exact ⟨(row_lt hr k hk).2, hnF k hk⟩
      · exact hap k (.inl ⟨r, hr', hk⟩)
    · exact hap k (.inr hk)
  · rcases List.mem_cons.1 hr' with rfl | hr'
    · exact row_mono hr h.mr.hB
    · exact h1.rows r hr'
  · have h2 := (row_lt hr k hk).1
    have h3 := h.lt (.inl ⟨r, hr', e'⟩)
    omega
  · rcases List.mem_cons.1 hr' with rfl | hr'
    · intro e'
      have h2 := (row_lt hr _ e').1
      have h3 := h.lt (.inr ⟨b, hb', rfl⟩)
      omega
    · exact h1.rb r hr' b hb'
end
end Go.Proofs.YtnimbgcploohiaaGreat
set_option linter.unusedVariables false
namespace Go.Proofs.YtnimbgcploohiaaGreat
theorem rankE_cons (x : En) (t : List En) (k : Int) : rankE (x :: t) k = rankE t k + (if x.key < k then 1 else 0) := by
  unfold rankE
  rw [List.countP_cons]
  by_cases h : x.key < k <;> simp [h]
theorem rankE_zero : ∀ {t : List En} {k : Int}, (∀ y ∈ t, k ≤ y.key) → rankE t k = 0
  | [], k, h => rfl
  | x :: t, k, h => by
    rw [rankE_cons, rankE_zero (fun y hy => h y (by simp [hy])), if_neg (by have := h x (by simp); omega)]
/-- the entries before the rank have lesser keys, those behind it none -/
theorem rank_iff : ∀ {l : List En} (k : Int), Up l → ∀ {j : Nat} {e : En}, l[j]? = some e → (e.key < k ↔ j < rankE l k)
  | [], k, h, j, e, he => by simp at he
  | x :: t, k, h, j, e, he => by
    unfold Up at h
    rw [List.pairwise_cons] at h
    rw [rankE_cons]
    match j, he with
    | 0, he =>
      simp at he
      subst he
      by_cases hx : x.key < k
      · rw [if_pos hx]; exact ⟨fun _ => by omega, fun _ => hx⟩
      · rw [if_neg hx, rankE_zero (fun y hy => by have := h.1 y hy; omega)]
        exact ⟨fun h => absurd h hx, fun h => absurd h (by omega)⟩
    | j + 1, he =>
      simp at he
      have hm := List.mem_of_getElem? he
      have hlt := h.1 e hm
      have ih := rank_iff k h.2 he
      by_cases hx : x.key < k
      · rw [if_pos hx]
        exact ⟨fun h => by have := ih.1 h; omega, fun h => ih.2 (by omega)⟩
      · rw [if_neg hx, rankE_zero (fun y hy => by have := h.1 y hy; omega)]
        exact ⟨fun h => by omega, fun h => by omega⟩
theorem rank_of {l : List En} (h : Up l) {j : Nat} {e : En} (he : l[j]? = some e) : rankE l e.key = j := by
  have h1 := rank_iff e.key h he
  have hj := (List.getElem?_eq_some_iff.1 he).1
  rcases Nat.lt_trichotomy (rankE l e.key) j with h2 | h2 | h2
  · have h3 : l[rankE l e.key]? = some l[rankE l e.key] := List.getElem?_eq_getElem (by omega)
    have h4 := rank_iff e.key h h3
    have h5 : l[rankE l e.key].key < e.key := by
      have := List.pairwise_iff_getElem.1 h (rankE l e.key) j (by omega) hj h2
      rw [List.getElem?_eq_getElem hj] at he
      have e2 : l[j].key = e.key := by rw [Option.some.inj he]
      omega
    have := h4.1 h5
    omega
  · exact h2
  · have := h1.2 h2; omega
theorem get_some {l : List En} {k : Int} {e : En} (h : getE l k = some e) : e ∈ l ∧ e.key = k := by
  unfold getE at h
  have h2 := List.find?_some h
  exact ⟨List.mem_of_find?_eq_some h, of_decide_eq_true h2⟩
theorem get_none {l : List En} {k : Int} (h : getE l k = none) : ∀ e ∈ l, e.key ≠ k := fun e he => by
  unfold getE at h
  have := List.find?_eq_none.1 h e he
  simpa using this
theorem selE_nat (l : List En) (j : Nat) : selE l (j : Int) = l[j]? := by unfold selE; rw [if_pos (by omega), Int.toNat_natCast]
theorem selE_pred (l : List En) (j : Nat) : selE l ((j : Int) - 1) = if j = 0 then none else l[j - 1]? := by
  unfold selE
  by_cases h : j = 0
  · rw [if_pos h, if_neg (by omega)]
  · rw [if_neg h, if_pos (by omega), show ((j : Int) - 1).toNat = j - 1 by omega]
end Go.Proofs.YtnimbgcploohiaaGreat
set_option linter.unusedVariables false
namespace Go.Proofs.YtnimbgcploohiaaGreat
theorem up_app {A B : List En} {e : En} (h : Up (A ++ e :: B)) : Up A ∧ Up B ∧ (∀ x ∈ A, x.key < e.key) ∧ ∀ x ∈ B, e.key < x.key := by
  unfold Up at *
  rw [List.pairwise_append, List.pairwise_cons] at h
  exact ⟨h.1, h.2.1.2, fun x hx => h.2.2 x hx e (by simp), h.2.1.1⟩
theorem rankE_app (A B : List En) (k : Int) : rankE (A ++ B) k = rankE A k + rankE B k := by unfold rankE; exact List.countP_append
theorem rankE_all : ∀ {A : List En} {k : Int}, (∀ x ∈ A, x.key < k) → rankE A k = A.length
  | [], k, h => rfl
  | x :: t, k, h => by rw [rankE_cons, rankE_all (fun y hy => h y (by simp [hy])), if_pos (h x (by simp))]; rfl
/-- the rank of the next number -/
theorem rank_next {l : List En} (h : Up l) (k : Int) : rankE l (k + 1) = rankE l k + (if (getE l k).isSome then 1 else 0) := by
  cases hg : getE l k with
  | none =>
    have h1 := get_none hg
    show rankE l (k + 1) = rankE l k
    unfold rankE
    exact List.countP_congr fun e he => by
      have := h1 e he
      simp only [decide_eq_true_eq]
      omega
  | some e =>
    obtain ⟨hm, rfl⟩ := get_some hg
    obtain ⟨j, hj, hje⟩ := List.mem_iff_getElem.1 hm
    have hje' : l[j]? = some e := by rw [List.getElem?_eq_getElem hj, hje]
    rw [rank_of h hje']
    show rankE l (e.key + 1) = j + 1
    have h1 := (rank_iff (e.key + 1) h hje').1 (by omega)
    rcases Nat.lt_or_ge (j + 1) (rankE l (e.key + 1)) with h2 | h2
    · have h3 := rankE_le l (e.key + 1)
      have hb : l[j + 1]? = some l[j + 1] := List.getElem?_eq_getElem (by omega)
      have h4 := (rank_iff (e.key + 1) h hb).2 h2
      have h5 := List.pairwise_iff_getElem.1 h j (j + 1) hj (by omega) (by omega)
      rw [hje] at h5
      omega
    · omega
theorem floor_below {l : List En} (h : Up l) (k : Int) : floorE l k = belowE l (k + 1) := by
  unfold floorE belowE
  rw [rank_next h k]
  cases hg : (getE l k).isSome with
  | true => rw [if_pos rfl, if_pos rfl]; congr 1; omega
  | false => rfl
theorem above_ceil {l : List En} (h : Up l) (k : Int) : aboveE l k = ceilE l (k + 1) := by
  unfold aboveE ceilE
  rw [rank_next h k]
  cases hg : (getE l k).isSome with
  | true => rw [if_pos rfl, if_pos rfl]; rfl
  | false => rfl
theorem below_node {A B : List En} {e : En} (h : Up (A ++ e :: B)) (k : Int) : belowE (A ++ e :: B) k = if e.key < k then (belowE B k).or (some e) else belowE A k := by
  obtain ⟨h1, h2, h3, h4⟩ := up_app h
  unfold belowE
  rw [rankE_app, rankE_cons, selE_pred]
  by_cases hk : e.key < k
  · rw [if_pos hk, rankE_all (A := A) (fun x hx => by have := h3 x hx; omega), if_neg (by omega), if_pos hk, selE_pred]
    by_cases h0 : rankE B k = 0
    · rw [if_pos h0, h0, show A.length + (0 + 1) - 1 = A.length by omega]
      rw [List.getElem?_append_right (Nat.le_refl _), Nat.sub_self]
      rfl
    · rw [if_neg h0, show A.length + (rankE B k + 1) - 1 = A.length + rankE B k by omega, List.getElem?_append_right (by omega), show A.length + rankE B k - A.length = (rankE B k - 1) + 1 by omega, List.getElem?_cons_succ]
      have := rankE_le B k
      rw [List.getElem?_eq_getElem (by omega)]
      rfl
  · rw [if_neg hk, if_neg hk, rankE_zero (t := B) (fun y hy => by have := h4 y hy; omega), selE_pred]
    simp only [Nat.add_zero]
    by_cases h0 : rankE A k = 0
    · rw [if_pos h0, if_pos h0]
    · have := rankE_le A k
      rw [if_neg h0, if_neg h0, List.getElem?_append_left (by omega)]
theorem ceil_node {A B : List En} {e : En} (h : Up (A ++ e :: B)) (k : Int) : ceilE (A ++ e :: B) k = if e.key < k then ceilE B k else (ceilE A k).or (some e) := by
  obtain ⟨h1, h2, h3, h4⟩ := up_app h
  unfold ceilE
  rw [rankE_app, rankE_cons, selE_nat, selE_nat, selE_nat]
  by_cases hk : e.key < k
  · rw [if_pos hk, if_pos hk, rankE_all (A := A) (fun x hx => by have := h3 x hx; omega), List.getElem?_append_right (by omega), show A.length + (rankE B k + 1) - A.length = rankE B k + 1 by omega, List.getElem?_cons_succ]
  · rw [if_neg hk, if_neg hk, rankE_zero (t := B) (fun y hy => by have := h4 y hy; omega)]
    simp only [Nat.add_zero]
    have := rankE_le A k
    rcases Nat.lt_or_ge (rankE A k) A.length with h0 | h0
    · rw [List.getElem?_append_left h0, List.getElem?_eq_getElem h0]; rfl
    · rw [List.getElem?_append_right h0, show rankE A k - A.length = 0 by omega, List.getElem?_eq_none h0]; rfl
theorem getE_app (A B : List En) (k : Int) : getE (A ++ B) k = (getE A k).or (getE B k) := by unfold getE; exact List.find?_append
theorem getE_none {l : List En} {k : Int} (h : ∀ e ∈ l, e.key ≠ k) : getE l k = none := by
  unfold getE
  exact List.find?_eq_none.2 fun e he => by simpa using h e he
end Go.Proofs.YtnimbgcploohiaaGreat
set_option linter.unusedVariables false
namespace Go.Proofs.YtnimbgcploohiaaGreat
theorem fil0C {l : List En} {q : En → Bool} (h : ∀ e ∈ l, q e = false) : l.filter q = [] := by rw [List.filter_eq_nil_iff]; intro e he; rw [h e he]; simp
theorem fil1C {l : List En} {q : En → Bool} (h : ∀ e ∈ l, q e = true) : l.filter q = l := List.filter_eq_self.2 h
/-- what it takes on the left of node i; the node itself, where m are still wanted -/
def lefC (nd : Nat → Nd) (lo : Int) (i : Nat) (g : List En) : List En := if lo < (nd i).key then g else []
def midC (nd : Nat → Nd) (lo hi : Int) (i m : Nat) (g : List En) : List En := if (lo ≤ (nd i).key ∧ (nd i).key ≤ hi) ∧ g.length < m then [⟨(nd i).key, (nd i).val⟩] else []
/-- the entries that collect takes -/
def gotC (nd : Nat → Nd) (lo hi : Int) : Tr → Nat → List En
  | .nil, _ => []
  | .node i l r, m => if m = 0 then [] else
      lefC nd lo i (gotC nd lo hi l m) ++ (midC nd lo hi i m (lefC nd lo i (gotC nd lo hi l m)) ++
      (if (nd i).key < hi then gotC nd lo hi r (m - (lefC nd lo i (gotC nd lo hi l m) ++ midC nd lo hi i m (lefC nd lo i (gotC nd lo hi l m))).length) else []))
/-- how many nodes it reads -/
def visC (nd : Nat → Nd) (lo hi : Int) : Tr → Nat → Nat
  | .nil, _ => 0
  | .node i l r, m => if m = 0 then 0 else 1 + (if lo < (nd i).key then visC nd lo hi l m else 0) +
      (if (nd i).key < hi then visC nd lo hi r (m - (lefC nd lo i (gotC nd lo hi l m) ++ midC nd lo hi i m (lefC nd lo i (gotC nd lo hi l m))).length) else 0)
theorem bet_app (a b : List En) (lo hi : Int) : betE (a ++ b) lo hi = betE a lo hi ++ betE b lo hi := List.filter_append ..
theorem bet_cons (e : En) (b : List En) (lo hi : Int) : betE (e :: b) lo hi = (if lo ≤ e.key ∧ e.key ≤ hi then [e] else []) ++ betE b lo hi := by
  unfold betE
  rw [List.filter_cons]
  by_cases h : lo ≤ e.key ∧ e.key ≤ hi
  · rw [if_pos (by simpa using h), if_pos h]; rfl
  · rw [if_neg (by simpa using h), if_neg h]; rfl
theorem bet_nil_of {l : List En} {lo hi : Int} (h : ∀ x ∈ l, x.key < lo ∨ hi < x.key) : betE l lo hi = [] := fil0C fun x hx => by have := h x hx; simp; omega
theorem bet_all_of {l : List En} {lo hi : Int} (h : ∀ x ∈ l, lo ≤ x.key ∧ x.key ≤ hi) : betE l lo hi = l := fil1C fun x hx => by have := h x hx; simp; omega
theorem gotC_zero (nd : Nat → Nd) (lo hi : Int) : ∀ t, gotC nd lo hi t 0 = []
  | .nil => rfl
  | .node i l r => by unfold gotC; rw [if_pos rfl]
theorem visC_zero (nd : Nat → Nd) (lo hi : Int) : ∀ t, visC nd lo hi t 0 = 0
  | .nil => rfl
  | .node i l r => by unfold visC; rw [if_pos rfl]
theorem gotC_spec (nd : Nat → Nd) (lo hi : Int) : ∀ (t : Tr) (m : Nat), Up (t.ents nd) → gotC nd lo hi t m = (betE (t.ents nd) lo hi).take m
  | .nil, m, _ => by simp [gotC, Tr.ents, Tr.idx, betE]
  | .node i l r, m, hu => by
    rw [Tr.ents_node] at hu ⊢
    obtain ⟨hl, hr, h3, h4⟩ := up_app hu
    by_cases hm : m = 0
    · subst hm; rw [gotC_zero, List.take_zero]
    have ihl : lefC nd lo i (gotC nd lo hi l m) = (betE (l.ents nd) lo hi).take m := by
      unfold lefC
      by_cases hk : lo < (nd i).key
      · rw [if_pos hk, gotC_spec nd lo hi l m hl]
      · rw [if_neg hk, bet_nil_of (l := l.ents nd) (fun x hx => .inl (by have h : x.key < (nd i).key := h3 x hx; omega)), List.take_nil]
    unfold gotC
    rw [if_neg hm, ihl, bet_app, bet_cons, List.take_append]
    congr 1
    have hlt : ((betE (l.ents nd) lo hi).take m).length < m ↔ (betE (l.ents nd) lo hi).length < m := by rw [List.length_take]; omega
    have hmid : midC nd lo hi i m ((betE (l.ents nd) lo hi).take m) = (if lo ≤ (⟨(nd i).key, (nd i).val⟩ : En).key ∧ (⟨(nd i).key, (nd i).val⟩ : En).key ≤ hi then [(⟨(nd i).key, (nd i).val⟩ : En)] else []).take (m - (betE (l.ents nd) lo hi).length) := by
      unfold midC
      show _ = (if lo ≤ (nd i).key ∧ (nd i).key ≤ hi then [(⟨(nd i).key, (nd i).val⟩ : En)] else []).take _
      by_cases h1 : lo ≤ (nd i).key ∧ (nd i).key ≤ hi
      · rw [if_pos h1]
        by_cases h2 : (betE (l.ents nd) lo hi).length < m
        · rw [if_pos ⟨h1, hlt.2 h2⟩, List.take_of_length_le (by simp; omega)]
        · rw [if_neg (fun q => h2 (hlt.1 q.2)), show m - (betE (l.ents nd) lo hi).length = 0 by omega, List.take_zero]
      · rw [if_neg h1, if_neg (fun q => h1 q.1), List.take_nil]
    rw [List.take_append, hmid]
    congr 1
    by_cases hk : (nd i).key < hi
    · rw [if_pos hk, gotC_spec nd lo hi r _ hr]
      congr 1
      rw [List.length_append, List.length_take, List.length_take]
      omega
    · rw [if_neg hk, bet_nil_of (l := r.ents nd) (fun x hx => .inr (by have h : (nd i).key < x.key := h4 x hx; omega)), List.take_nil]
theorem gotC_len {nd : Nat → Nd} {lo hi : Int} {t : Tr} {m : Nat} (hu : Up (t.ents nd)) : (gotC nd lo hi t m).length = min m (betE (t.ents nd) lo hi).length := by rw [gotC_spec nd lo hi t m hu, List.length_take]
theorem visC_size (nd : Nat → Nd) (lo hi : Int) : ∀ (t : Tr) (m : Nat), visC nd lo hi t m ≤ t.size
  | .nil, _ => Nat.le_refl _
  | .node i l r, m => by
    have h1 := visC_size nd lo hi l m
    unfold visC
    show _ ≤ l.size + r.size + 1
    split
    · omega
    · have h2 := visC_size nd lo hi r (m - (lefC nd lo i (gotC nd lo hi l m) ++ midC nd lo hi i m (lefC nd lo i (gotC nd lo hi l m))).length)
      split <;> split <;> omega
/-- a node's count, by its parts: L, M, R what is taken on the left, at the node, on the right -/
theorem visC_node (nd : Nat → Nd) (lo hi : Int) (i : Nat) (l r : Tr) (m : Nat) (hm : m ≠ 0) :
    ∃ (L M R : Nat) (vl vr : Nat), (gotC nd lo hi (.node i l r) m).length = L + (M + R) ∧ visC nd lo hi (.node i l r) m = 1 + vl + vr ∧
      ((lo < (nd i).key ∧ L = (gotC nd lo hi l m).length ∧ vl = visC nd lo hi l m) ∨ (¬ lo < (nd i).key ∧ L = 0 ∧ vl = 0)) ∧
      ((((lo ≤ (nd i).key ∧ (nd i).key ≤ hi) ∧ L < m) ∧ M = 1) ∨ (¬ ((lo ≤ (nd i).key ∧ (nd i).key ≤ hi) ∧ L < m) ∧ M = 0)) ∧
      (((nd i).key < hi ∧ R = (gotC nd lo hi r (m - (L + M))).length ∧ vr = visC nd lo hi r (m - (L + M))) ∨ (¬ (nd i).key < hi ∧ R = 0 ∧ vr = 0)) := by
  refine ⟨(lefC nd lo i (gotC nd lo hi l m)).length, (midC nd lo hi i m (lefC nd lo i (gotC nd lo hi l m))).length, (if (nd i).key < hi then gotC nd lo hi r (m - (lefC nd lo i (gotC nd lo hi l m) ++ midC nd lo hi i m (lefC nd lo i (gotC nd lo hi l m))).length) else []).length, (if lo < (nd i).key then visC nd lo hi l m else 0), (if (nd i).key < hi then visC nd lo hi r (m - (lefC nd lo i (gotC nd lo hi l m) ++ midC nd lo hi i m (lefC nd lo i (gotC nd lo hi l m))).length) else 0), ?_, ?_, ?_, ?_, ?_⟩
  · rw [gotC, if_neg hm, List.length_append, List.length_append]
  · rw [visC, if_neg hm]
  · unfold lefC
    by_cases h : lo < (nd i).key
    · rw [if_pos h, if_pos h]; exact .inl ⟨h, rfl, rfl⟩
    · rw [if_neg h, if_neg h]; exact .inr ⟨h, rfl, rfl⟩
  · generalize lefC nd lo i (gotC nd lo hi l m) = g
    unfold midC
    by_cases h : (lo ≤ (nd i).key ∧ (nd i).key ≤ hi) ∧ g.length < m
    · rw [if_pos h]; exact .inl ⟨h, rfl⟩
    · rw [if_neg h]; exact .inr ⟨h, rfl⟩
  · rw [List.length_append]
    by_cases h : (nd i).key < hi
    · rw [if_pos h, if_pos h]; exact .inl ⟨h, rfl, rfl⟩
    · rw [if_neg h, if_neg h]; exact .inr ⟨h, rfl, rfl⟩
theorem Tr.ents_left {nd : Nat → Nd} {i : Nat} {l r : Tr} {q : En → Prop} (h : ∀ x ∈ (Tr.node i l r).ents nd, q x) : (∀ x ∈ l.ents nd, q x) ∧ q ⟨(nd i).key, (nd i).val⟩ ∧ ∀ x ∈ r.ents nd, q x := by
  rw [Tr.ents_node] at h
  exact ⟨fun x hx => h x (by simp [hx]), h _ (by simp), fun x hx => h x (by simp [hx])⟩
/-- all keys are at least lo -/
theorem vis_lo (nd : Nat → Nd) (lo hi : Int) : ∀ (t : Tr) (m : Nat), Up (t.ents nd) → (∀ x ∈ t.ents nd, lo ≤ x.key) → visC nd lo hi t m ≤ (gotC nd lo hi t m).length + t.ht
  | .nil, m, _, _ => Nat.zero_le _
  | .node i l r, m, hu, ha => by
    by_cases hm : m = 0
    · subst hm; rw [visC_zero]; exact Nat.zero_le _
    obtain ⟨hal, hai, har⟩ := Tr.ents_left ha
    rw [Tr.ents_node] at hu
    obtain ⟨hl, hr, h3, h4⟩ := up_app hu
    obtain ⟨L, M, R, vl, vr, e1, e2, eL, eM, eR⟩ := visC_node nd lo hi i l r m hm
    have il := vis_lo nd lo hi l m hl hal
    have ir := vis_lo nd lo hi r (m - (L + M)) hr har
    have sl := visC_size nd lo hi l m
    have hai' : lo ≤ (nd i).key := hai
    have hht : (Tr.node i l r).ht = 1 + max l.ht r.ht := rfl
    have hgl := gotC_len (m := m) (lo := lo) (hi := hi) hl
    have hfull : (nd i).key ≤ hi → betE (l.ents nd) lo hi = l.ents nd := fun q => bet_all_of fun x hx => ⟨hal x hx, by have h : x.key < (nd i).key := h3 x hx; omega⟩
    have hsz := Tr.ents_len nd l
    rw [e1, e2, hht]
    rcases eM with ⟨⟨hb, hLm⟩, hM⟩ | ⟨hb, hM⟩
    · rw [hfull hb.2] at hgl
      rcases eL with ⟨h1, h2, h5⟩ | ⟨h1, h2, h5⟩ <;> rcases eR with ⟨h6, h7, h8⟩ | ⟨h6, h7, h8⟩ <;> omega
    · by_cases hk : (nd i).key ≤ hi
      · have h0 : m - (L + M) = 0 := by
          have : ¬ L < m := fun q => hb ⟨⟨hai', hk⟩, q⟩
          omega
        rw [h0, visC_zero] at ir
        rw [h0] at eR
        rw [visC_zero] at eR
        rcases eL with ⟨h1, h2, h5⟩ | ⟨h1, h2, h5⟩ <;> rcases eR with ⟨h6, h7, h8⟩ | ⟨h6, h7, h8⟩ <;> omega
      · rcases eL with ⟨h1, h2, h5⟩ | ⟨h1, h2, h5⟩ <;> rcases eR with ⟨h6, h7, h8⟩ | ⟨h6, h7, h8⟩ <;> omega
/-- all keys are at most hi, and all that are wanted are taken -/
theorem vis_hi (nd : Nat → Nd) (lo hi : Int) : ∀ (t : Tr) (m : Nat), Up (t.ents nd) → (∀ x ∈ t.ents nd, x.key ≤ hi) → (betE (t.ents nd) lo hi).length ≤ m → visC nd lo hi t m ≤ (gotC nd lo hi t m).length + t.ht
  | .nil, m, _, _, _ => Nat.zero_le _
  | .node i l r, m, hu, ha, hb => by
    by_cases hm : m = 0
    · subst hm; rw [visC_zero]; exact Nat.zero_le _
    obtain ⟨hal, hai, har⟩ := Tr.ents_left ha
    rw [Tr.ents_node] at hu hb
    obtain ⟨hl, hr, h3, h4⟩ := up_app hu
    obtain ⟨L, M, R, vl, vr, e1, e2, eL, eM, eR⟩ := visC_node nd lo hi i l r m hm
    have hai' : (nd i).key ≤ hi := hai
    rw [bet_app, bet_cons, List.length_append, List.length_append] at hb
    have hb1 : (if lo ≤ (nd i).key ∧ (nd i).key ≤ hi then [(⟨(nd i).key, (nd i).val⟩ : En)] else []).length = if lo ≤ (nd i).key then 1 else 0 := by
      by_cases h : lo ≤ (nd i).key
      · rw [if_pos ⟨h, hai'⟩, if_pos h]; rfl
      · rw [if_neg (fun q => h q.1), if_neg h]; rfl
    replace hb : (betE (l.ents nd) lo hi).length + ((if lo ≤ (nd i).key then 1 else 0) + (betE (r.ents nd) lo hi).length) ≤ m := by rw [← hb1]; exact hb
    have il := vis_hi nd lo hi l m hl hal (by omega)
    have ir := vis_hi nd lo hi r (m - (L + M)) hr har
    have sr := visC_size nd lo hi r (m - (L + M))
    have hht : (Tr.node i l r).ht = 1 + max l.ht r.ht := rfl
    have hgl := gotC_len (m := m) (lo := lo) (hi := hi) hl
    have hgr := gotC_len (m := m - (L + M)) (lo := lo) (hi := hi) hr
    have hfull : lo ≤ (nd i).key → betE (r.ents nd) lo hi = r.ents nd := fun q => bet_all_of fun x hx => ⟨by have h : (nd i).key < x.key := h4 x hx; omega, har x hx⟩
    have hnone : ¬ lo < (nd i).key → betE (l.ents nd) lo hi = [] := fun q => bet_nil_of fun x hx => .inl (by have h : x.key < (nd i).key := h3 x hx; omega)
    have hsz := Tr.ents_len nd r
    rw [e1, e2, hht]
    rcases eL with ⟨h1, h2, h5⟩ | ⟨h1, h2, h5⟩
    · rw [if_pos (by omega)] at hb
      rw [hfull (by omega)] at hb hgr
      rcases eM with ⟨⟨hc, hLm⟩, hM⟩ | ⟨hc, hM⟩
      · rcases eR with ⟨h6, h7, h8⟩ | ⟨h6, h7, h8⟩ <;> omega
      · exact absurd ⟨⟨by omega, hai'⟩, by omega⟩ hc
    · rw [hnone h1] at hb
      have h0 : ([] : List En).length = 0 := rfl
      rw [h0] at hb
      have ir' := ir (by
        rcases eM with ⟨⟨hc, hLm⟩, hM⟩ | ⟨hc, hM⟩
        · rw [if_pos hc.1] at hb; omega
        · have : (0 : Nat) ≤ (if lo ≤ (nd i).key then 1 else 0) := Nat.zero_le _
          omega)
      rcases eM with ⟨⟨hc, hLm⟩, hM⟩ | ⟨hc, hM⟩ <;> rcases eR with ⟨h6, h7, h8⟩ | ⟨h6, h7, h8⟩ <;> omega
theorem vis_all (nd : Nat → Nd) (lo hi : Int) : ∀ (t : Tr) (m : Nat), Up (t.ents nd) → visC nd lo hi t m ≤ (gotC nd lo hi t m).length + 2 * t.ht
  | .nil, m, _ => Nat.zero_le _
  | .node i l r, m, hu => by
    by_cases hm : m = 0
    · subst hm; rw [visC_zero]; exact Nat.zero_le _
    rw [Tr.ents_node] at hu
    obtain ⟨hl, hr, h3, h4⟩ := up_app hu
    obtain ⟨L, M, R, vl, vr, e1, e2, eL, eM, eR⟩ := visC_node nd lo hi i l r m hm
    have il := vis_all nd lo hi l m hl
    have ir := vis_all nd lo hi r (m - (L + M)) hr
    have hht : (Tr.node i l r).ht = 1 + max l.ht r.ht := rfl
    have hgl := gotC_len (m := m) (lo := lo) (hi := hi) hl
    have hlt : (nd i).key ≤ hi → (betE (l.ents nd) lo hi).length ≤ m → visC nd lo hi l m ≤ (gotC nd lo hi l m).length + l.ht := fun q => vis_hi nd lo hi l m hl (fun x hx => by have h : x.key < (nd i).key := h3 x hx; omega)
    have hgt : lo ≤ (nd i).key → visC nd lo hi r (m - (L + M)) ≤ (gotC nd lo hi r (m - (L + M))).length + r.ht := fun q => vis_lo nd lo hi r _ hr (fun x hx => by have h : (nd i).key < x.key := h4 x hx; omega)
    rw [e1, e2, hht]
    by_cases hk1 : (nd i).key < lo
    · rcases eL with ⟨h1, h2, h5⟩ | ⟨h1, h2, h5⟩ <;> rcases eR with ⟨h6, h7, h8⟩ | ⟨h6, h7, h8⟩ <;> omega
    by_cases hk2 : hi < (nd i).key
    · rcases eL with ⟨h1, h2, h5⟩ | ⟨h1, h2, h5⟩ <;> rcases eR with ⟨h6, h7, h8⟩ | ⟨h6, h7, h8⟩ <;> omega
    have hgt' := hgt (by omega)
    by_cases hc : (betE (l.ents nd) lo hi).length ≤ m
    · have hlt' := hlt (by omega) hc
      rcases eL with ⟨h1, h2, h5⟩ | ⟨h1, h2, h5⟩ <;> rcases eR with ⟨h6, h7, h8⟩ | ⟨h6, h7, h8⟩ <;> omega
    · rcases eL with ⟨h1, h2, h5⟩ | ⟨h1, h2, h5⟩
      · have h0 : m - (L + M) = 0 := by omega
        rw [h0, visC_zero] at eR
        rcases eR with ⟨h6, h7, h8⟩ | ⟨h6, h7, h8⟩ <;> omega
      · rcases eR with ⟨h6, h7, h8⟩ | ⟨h6, h7, h8⟩ <;> omega
end Go.Proofs.YtnimbgcploohiaaGreat
set_option linter.unusedVariables false
set_option linter.unusedSimpArgs false
namespace Go.Proofs.YtnimbgcploohiaaGreat
open Go.RowKit
section
variable {w0 w w' : World} {D : List (Nat × Nd)} {a b c : Nat} {X Y Z Y1 Y2 Y3 : Nd}
/-- a world with eight cells written -/
def put8 (w : World) (a : Nat) (Y : Nd) : World := ((((((((w.setCell ⟨a, 0, none⟩ (.int .i64 Y.key)).setCell ⟨a, 1, none⟩ (.int .i64 Y.val)).setCell ⟨a, 2, none⟩ (.int .u32 (Y.left : Int))).setCell ⟨a, 3, none⟩ (.int .u32 (Y.right : Int))).setCell ⟨a, 4, none⟩ (.int .i64 Y.size)).setCell ⟨a, 5, none⟩ (.int .i64 Y.sum)).setCell ⟨a, 6, none⟩ (.int .i64 Y.mn)).setCell ⟨a, 7, none⟩ (.int .i64 Y.mx))
theorem put8_size (w : World) (g : Nat) (Y : Nd) : (put8 w g Y).heap.size = w.heap.size := by simp [put8, World.setCell]
theorem put8_other (w : World) (g : Nat) (Y : Nd) {k : Nat} (hk : k ≠ g) : (put8 w g Y).heap[k]? = w.heap[k]? := by
  unfold put8
  rw [heap_setCell_other _ _ _ _ hk, heap_setCell_other _ _ _ _ hk, heap_setCell_other _ _ _ _ hk, heap_setCell_other _ _ _ _ hk, heap_setCell_other _ _ _ _ hk, heap_setCell_other _ _ _ _ hk, heap_setCell_other _ _ _ _ hk, heap_setCell_other _ _ _ _ hk]
theorem put8_same {t : TypeId} (h : w.heap[a]? = some (.cells (ndRow X) t (0, 0))) : (put8 w a Y).heap[a]? = some (.cells (ndRow Y) t (0, 0)) := by
  have h0 : (w.setCell ⟨a, 0, none⟩ (.int .i64 Y.key)).heap[a]? = some (.cells #[Value.int .i64 Y.key, .int .i64 X.val, .int .u32 (X.left : Int), .int .u32 (X.right : Int), .int .i64 X.size, .int .i64 X.sum, .int .i64 X.mn, .int .i64 X.mx] t (0, 0)) := by rw [heap_setCell_same _ _ _ _ _ _ h]; rfl
  have h1 : ((w.setCell ⟨a, 0, none⟩ (.int .i64 Y.key)).setCell ⟨a, 1, none⟩ (.int .i64 Y.val)).heap[a]? = some (.cells #[Value.int .i64 Y.key, .int .i64 Y.val, .int .u32 (X.left : Int), .int .u32 (X.right : Int), .int .i64 X.size, .int .i64 X.sum, .int .i64 X.mn, .int .i64 X.mx] t (0, 0)) := by rw [heap_setCell_same _ _ _ _ _ _ h0]; rfl
  have h2 : (((w.setCell ⟨a, 0, none⟩ (.int .i64 Y.key)).setCell ⟨a, 1, none⟩ (.int .i64 Y.val)).setCell ⟨a, 2, none⟩ (.int .u32 (Y.left : Int))).heap[a]? = some (.cells #[Value.int .i64 Y.key, .int .i64 Y.val, .int .u32 (Y.left : Int), .int .u32 (X.right : Int), .int .i64 X.size, .int .i64 X.sum, .int .i64 X.mn, .int .i64 X.mx] t (0, 0)) := by rw [heap_setCell_same _ _ _ _ _ _ h1]; rfl
  have h3 : ((((w.setCell ⟨a, 0, none⟩ (.int .i64 Y.key)).setCell ⟨a, 1, none⟩ (.int .i64 Y.val)).setCell ⟨a, 2, none⟩ (.int .u32 (Y.left : Int))).setCell ⟨a, 3, none⟩ (.int .u32 (Y.right : Int))).heap[a]? = some (.cells #[Value.int .i64 Y.key, .int .i64 Y.val, .int .u32 (Y.left : Int), .int .u32 (Y.right : Int), .int .i64 X.size, .int .i64 X.sum, .int .i64 X.mn, .int .i64 X.mx] t (0, 0)) := by rw [heap_setCell_same _ _ _ _ _ _ h2]; rfl
  have h4 : (((((w.setCell ⟨a, 0, none⟩ (.int .i64 Y.key)).setCell ⟨a, 1, none⟩ (.int .i64 Y.val)).setCell ⟨a, 2, none⟩ (.int .u32 (Y.left : Int))).setCell ⟨a, 3, none⟩ (.int .u32 (Y.right : Int))).setCell ⟨a, 4, none⟩ (.int .i64 Y.size)).heap[a]? = some (.cells #[Value.int .i64 Y.key, .int .i64 Y.val, .int .u32 (Y.left : Int), .int .u32 (Y.right : Int), .int .i64 Y.size, .int .i64 X.sum, .int .i64 X.mn, .int .i64 X.mx] t (0, 0)) := by rw [heap_setCell_same _ _ _ _ _ _ h3]; rfl
  have h5 : ((((((w.setCell ⟨a, 0, none⟩ (.int .i64 Y.key)).setCell ⟨a, 1, none⟩ (.int .i64 Y.val)).setCell ⟨a, 2, none⟩ (.int .u32 (Y.left : Int))).setCell ⟨a, 3, none⟩ (.int .u32 (Y.right : Int))).setCell ⟨a, 4, none⟩ (.int .i64 Y.size)).setCell ⟨a, 5, none⟩ (.int .i64 Y.sum)).heap[a]? = some (.cells #[Value.int .i64 Y.key, .int .i64 Y.val, .int .u32 (Y.left : Int), .int .u32 (Y.right : Int), .int .i64 Y.size, .int .i64 Y.sum, .int .i64 X.mn, .int .i64 X.mx] t (0, 0)) := by rw [heap_setCell_same _ _ _ _ _ _ h4]; rfl
  have h6 : (((((((w.setCell ⟨a, 0, none⟩ (.int .i64 Y.key)).setCell ⟨a, 1, none⟩ (.int .i64 Y.val)).setCell ⟨a, 2, none⟩ (.int .u32 (Y.left : Int))).setCell ⟨a, 3, none⟩ (.int .u32 (Y.right : Int))).setCell ⟨a, 4, none⟩ (.int .i64 Y.size)).setCell ⟨a, 5, none⟩ (.int .i64 Y.sum)).setCell ⟨a, 6, none⟩ (.int .i64 Y.mn)).heap[a]? = some (.cells #[Value.int .i64 Y.key, .int .i64 Y.val, .int .u32 (Y.left : Int), .int .u32 (Y.right : Int), .int .i64 Y.size, .int .i64 Y.sum, .int .i64 Y.mn, .int .i64 X.mx] t (0, 0)) := by rw [heap_setCell_same _ _ _ _ _ _ h5]; rfl
  have h7 : ((((((((w.setCell ⟨a, 0, none⟩ (.int .i64 Y.key)).setCell ⟨a, 1, none⟩ (.int .i64 Y.val)).setCell ⟨a, 2, none⟩ (.int .u32 (Y.left : Int))).setCell ⟨a, 3, none⟩ (.int .u32 (Y.right : Int))).setCell ⟨a, 4, none⟩ (.int .i64 Y.size)).setCell ⟨a, 5, none⟩ (.int .i64 Y.sum)).setCell ⟨a, 6, none⟩ (.int .i64 Y.mn)).setCell ⟨a, 7, none⟩ (.int .i64 Y.mx)).heap[a]? = some (.cells #[Value.int .i64 Y.key, .int .i64 Y.val, .int .u32 (Y.left : Int), .int .u32 (Y.right : Int), .int .i64 Y.size, .int .i64 Y.sum, .int .i64 Y.mn, .int .i64 Y.mx] t (0, 0)) := by rw [heap_setCell_same _ _ _ _ _ _ h6]; rfl
  exact h7
theorem put8_below {n0 : Nat} (hw : n0 ≤ a) : Below n0 w (put8 w a Y) := (((((((((Below.refl _ _).setCell hw _).setCell hw _).setCell hw _).setCell hw _).setCell hw _).setCell hw _).setCell hw _).setCell hw _)
/-- eight cells and their marks -/
def Row8 (w : World) (a : Nat) (X : Nd) : Prop :=
  (w.cell? ⟨a, 0, none⟩ = some (.int .i64 X.key) ∧ w.cell? ⟨a, 1, none⟩ = some (.int .i64 X.val) ∧ w.cell? ⟨a, 2, none⟩ = some (.int .u32 (X.left : Int)) ∧ w.cell? ⟨a, 3, none⟩ = some (.int .u32 (X.right : Int)) ∧ w.cell? ⟨a, 4, none⟩ = some (.int .i64 X.size) ∧ w.cell? ⟨a, 5, none⟩ = some (.int .i64 X.sum) ∧ w.cell? ⟨a, 6, none⟩ = some (.int .i64 X.mn) ∧ w.cell? ⟨a, 7, none⟩ = some (.int .i64 X.mx)) ∧
  (w.frozen? ⟨a, 0, none⟩ = false ∧ w.frozen? ⟨a, 1, none⟩ = false ∧ w.frozen? ⟨a, 2, none⟩ = false ∧ w.frozen? ⟨a, 3, none⟩ = false ∧ w.frozen? ⟨a, 4, none⟩ = false ∧ w.frozen? ⟨a, 5, none⟩ = false ∧ w.frozen? ⟨a, 6, none⟩ = false ∧ w.frozen? ⟨a, 7, none⟩ = false)
theorem row8_of {t : TypeId} (h : w.heap[a]? = some (.cells (ndRow X) t (0, 0))) : Row8 w a X :=
  ⟨⟨(by rw [cell_of_row _ _ _ _ _ _ h]; rfl), (by rw [cell_of_row _ _ _ _ _ _ h]; rfl), (by rw [cell_of_row _ _ _ _ _ _ h]; rfl), (by rw [cell_of_row _ _ _ _ _ _ h]; rfl), (by rw [cell_of_row _ _ _ _ _ _ h]; rfl), (by rw [cell_of_row _ _ _ _ _ _ h]; rfl), (by rw [cell_of_row _ _ _ _ _ _ h]; rfl), (by rw [cell_of_row _ _ _ _ _ _ h]; rfl)⟩,
   ⟨frozen_of_row w a 0 _ _ h, frozen_of_row w a 1 _ _ h, frozen_of_row w a 2 _ _ h, frozen_of_row w a 3 _ _ h, frozen_of_row w a 4 _ _ h, frozen_of_row w a 5 _ _ h, frozen_of_row w a 6 _ _ h, frozen_of_row w a 7 _ _ h⟩⟩
theorem sz_al (w : World) (o : Obj) : (w.alloc o).heap.size = w.heap.size + 1 := by simp
end
end Go.Proofs.YtnimbgcploohiaaGreat
set_option linter.unusedVariables false
set_option linter.unusedSimpArgs false
namespace Go.Proofs.YtnimbgcploohiaaGreat
open Go.RowKit
/-- what lay there and is none of the arena's -/
def OldI (w : World) (F : Nat → Prop) (k : Nat) : Prop := k < w.heap.size ∧ ¬ F k
structure Ins (I : AImpl) (w : World) (F : Nat → Prop) (p : Value) (A : Ar) (rd : Int) (rs : List Row) (bs : List (Nat × Obj)) (wr : World) : Prop where
  mr : MR I 0 w wr p A rd (fun k => OldI w F k ∨ SG rs bs k)
  kp : Keeps (OldI w F) w wr
  rows : ∀ r ∈ rs, wr.ownsRow w.heap.size r.e r.s r.v r.n r.xs
  boxes : ∀ b ∈ bs, w.heap.size ≤ b.1 ∧ wr.heap[b.1]? = some b.2
  rr : rs.Pairwise fun x y => ∀ k, x.v.ownBlock = some k → y.v.ownBlock ≠ some k
  bb : bs.Pairwise fun x y => x.1 ≠ y.1
  rb : ∀ r ∈ rs, ∀ b ∈ bs, r.v.ownBlock ≠ some b.1
section
variable {I : AImpl} {w wr wx : World} {F : Nat → Prop} {p : Value} {A A' : Ar} {rd rd' : Int} {rs : List Row} {bs : List (Nat × Obj)}
theorem Ins.start (h : I.Is w p A rd F) : Ins I w F p A rd [] [] w :=
  ⟨⟨⟨F, h, fun _ _ => Nat.zero_le _, fun k hk => by (rcases hk with hk | ⟨r, hr, _⟩ | ⟨b, hb, _⟩; exact hk; cases hr; cases hb)⟩, Below.refl _ _, Nat.zero_le _⟩, fun _ _ => rfl, fun r hr => (by cases hr), fun b hb => (by cases hb), List.Pairwise.nil, List.Pairwise.nil, fun r hr => (by cases hr)⟩
theorem Ins.size (h : Ins I w F p A rd rs bs wr) : w.heap.size ≤ wr.heap.size := h.mr.below.size
theorem Ins.calm (h : Ins I w F p A rd rs bs wr) (hb : Below wr.heap.size wr wx) : Ins I w F p A rd rs bs wx :=
  ⟨h.mr.calm hb, fun k hk => (h.mr.keeps hb k (.inl hk)).trans (h.kp k hk), fun r hr => row_below (h.rows r hr) hb, fun b hb' => ⟨(h.boxes b hb').1, (h.mr.keeps hb b.1 (.inr (.inr ⟨b, hb', rfl⟩))).trans (h.boxes b hb').2⟩, h.rr, h.bb, h.rb⟩
theorem Ins.lt (h : Ins I w F p A rd rs bs wr) {k : Nat} (hk : SG rs bs k) : k < wr.heap.size := h.mr.lt (.inr hk)
/-- a new box -/
theorem Ins.box (h : Ins I w F p A rd rs bs wr) (cs : Array Value) (t : TypeId) : Ins I w F p A rd rs ((wr.heap.size, .cells cs t (0, 0)) :: bs) (wr.alloc (.cells cs t)) := by
  have hb := below_new7 wr (.cells cs t)
  have h' := h.calm hb
  refine ⟨h.mr.fresh hb fun k hk => ?_, h'.kp, h'.rows, fun b hb' => ?_, h.rr, List.pairwise_cons.2 ⟨fun b hb' e => ?_, h.bb⟩, fun r hr b hb' => ?_⟩
  · rcases hk with hk | hk | ⟨b, hb', rfl⟩
    · exact .inl (.inl hk)
    · exact .inl (.inr (.inl hk))
    · rcases List.mem_cons.1 hb' with rfl | hb'
      · exact .inr ⟨Nat.le_refl _, by simp⟩
      · exact .inl (.inr (.inr ⟨b, hb', rfl⟩))
  · rcases List.mem_cons.1 hb' with rfl | hb'
    · exact ⟨h.size, heap_alloc_new wr _⟩
    · exact h'.boxes b hb'
  · have := h.lt (.inr ⟨b, hb', rfl⟩)
    have e' : wr.heap.size = b.1 := e
    omega
  · rcases List.mem_cons.1 hb' with rfl | hb'
    · intro e
      have := h.lt (.inl ⟨r, hr, e⟩)
      exact Nat.lt_irrefl _ this
    · exact h.rb r hr b hb'
theorem Ins.less {rs' : List Row} {bs' : List (Nat × Obj)} (h : Ins I w F p A rd rs bs wr) (h1 : rs'.Sublist rs) (h2 : bs'.Sublist bs) : Ins I w F p A rd rs' bs' wr :=
  ⟨h.mr.less fun k hk => hk.imp_right fun hk => by (rcases hk with ⟨r, hr, hk⟩ | ⟨b, hb, hk⟩; exact .inl ⟨r, h1.subset hr, hk⟩; exact .inr ⟨b, h2.subset hb, hk⟩), h.kp, fun r hr => h.rows r (h1.subset hr), fun b hb => h.boxes b (h2.subset hb), h.rr.sublist h1, h.bb.sublist h2, fun r hr b hb => h.rb r (h1.subset hr) b (h2.subset hb)⟩
theorem Ins.perm {bs' : List (Nat × Obj)} (h : Ins I w F p A rd rs bs wr) (hp : bs.Perm bs') : Ins I w F p A rd rs bs' wr :=
  ⟨h.mr.less fun k hk => hk.imp_right fun hk => by (rcases hk with ⟨r, hr, hk⟩ | ⟨b, hb, hk⟩; exact .inl ⟨r, hr, hk⟩; exact .inr ⟨b, hp.mem_iff.2 hb, hk⟩), h.kp, h.rows, fun b hb => h.boxes b (hp.mem_iff.2 hb), h.rr, hp.pairwise h.bb (fun e e' => e e'.symm), fun r hr b hb => h.rb r hr b (hp.mem_iff.2 hb)⟩
/-- the first box is written anew -/
theorem Ins.set {g : Nat} {o o' : Obj} (h : Ins I w F p A rd rs ((g, o) :: bs) wr) (hw : wx.heap[g]? = some o') (ho : wx.os = wr.os ∧ wx.tape = wr.tape ∧ wx.output = wr.output ∧ wx.heap.size = wr.heap.size ∧ ∀ k, k ≠ g → wx.heap[k]? = wr.heap[k]?) :
    Ins I w F p A rd rs ((g, o') :: bs) wx := by
  obtain ⟨o1, o2, o3, o4, o5⟩ := ho
  obtain ⟨F1, f1, f2, f3⟩ := h.mr.has
  obtain ⟨h1, h2⟩ := List.pairwise_cons.1 h.bb
  have hg := (h.boxes (g, o) (by simp)).1
  have hgF := (f3 g (.inr (.inr ⟨(g, o), by simp, rfl⟩))).2
  refine ⟨⟨⟨F1, I.keep f1 fun k hk => o5 k fun e => hgF (e ▸ hk), f2, fun k hk => ?_⟩, h.mr.below.trans ⟨o1, o2, o3, Nat.le_of_eq o4.symm, fun k hk => absurd hk (Nat.not_lt_zero k)⟩, Nat.zero_le _⟩, fun k hk => (o5 k fun e => by subst e; have := hk.1; have hg' : w.heap.size ≤ k := hg; omega).trans (h.kp k hk), fun r hr => row_keep (h.rows r hr) fun k hk => o5 k fun e => h.rb r hr (g, o) (by simp) (e ▸ hk), fun b hb => ?_, h.rr, List.pairwise_cons.2 ⟨h1, h2⟩, fun r hr b hb => ?_⟩
  · have : OldI w F k ∨ SG rs ((g, o) :: bs) k := hk.imp_right fun hk => by
      rcases hk with hk | ⟨b, hb, rfl⟩
      · exact .inl hk
      · rcases List.mem_cons.1 hb with rfl | hb
        · exact .inr ⟨(g, o), by simp, rfl⟩
        · exact .inr ⟨b, by simp [hb], rfl⟩
    exact ⟨by rw [o4]; exact (f3 k this).1, (f3 k this).2⟩
  · rcases List.mem_cons.1 hb with rfl | hb
    · exact ⟨hg, hw⟩
    · exact ⟨(h.boxes b (by simp [hb])).1, (o5 b.1 (fun e => h1 b hb e.symm)).trans (h.boxes b (by simp [hb])).2⟩
  · rcases List.mem_cons.1 hb with rfl | hb
    · exact h.rb r hr (g, o) (by simp)
    · exact h.rb r hr b (by simp [hb])
theorem Ins.put {g : Nat} {X Y : Nd} (h : Ins I w F p A rd rs ((g, Obj.cells (ndRow X) 65 (0, 0)) :: bs) wr) : Ins I w F p A rd rs ((g, Obj.cells (ndRow Y) 65 (0, 0)) :: bs) (put8 wr g Y) :=
  h.set (put8_same (h.boxes _ (List.Mem.head _)).2) ⟨(put8_below (n0 := 0) (Nat.zero_le _)).os, (put8_below (n0 := 0) (Nat.zero_le _)).tape, (put8_below (n0 := 0) (Nat.zero_le _)).output, put8_size wr g Y, fun k hk => put8_other wr g Y hk⟩
/-- a call that alters the arena -/
theorem Ins.mut {f : FuncId} {args : Array Value} {Q : Ending → Ar → Int → Prop} (h : Ins I w F p A rd rs bs wr) (hc : ∀ F1, I.Is wr p A rd F1 → Calls Tryz.prog f args wr (Mut I p F1 Q wr)) :
    Calls Tryz.prog f args wr fun e w' => ∃ A' rd', Q e A' rd' ∧ Ins I w F p A' rd' rs bs w' := by
  obtain ⟨F1, f1, f2, f3⟩ := h.mr.has
  refine (hc F1 f1).mono ?_
  rintro e w1 ⟨F', A', rd', hal, hI, hq⟩
  have hst := h.mr.stepA f2 f3 hal hI
  exact ⟨A', rd', hq, hst.1, fun k hk => (hst.2 k (.inl hk)).trans (h.kp k hk), fun r hr => row_keep (h.rows r hr) fun k hk' => hst.2 k (.inr (.inl ⟨r, hr, hk'⟩)), fun b hb => ⟨(h.boxes b hb).1, (hst.2 b.1 (.inr (.inr ⟨b, hb, rfl⟩))).trans (h.boxes b hb).2⟩, h.rr, h.bb, h.rb⟩
/-- a call that reads -/
theorem Ins.call {bd : Int} {v : Value} {f : FuncId} {args : Array Value} (h : Ins I w F p A rd rs bs wr) (hc : ∀ F1, I.Is wr p A rd F1 → Calls Tryz.prog f args wr (ReadsTo I p A rd F1 bd v wr)) :
    Calls Tryz.prog f args wr fun e w' => e = .returned v ∧ ∃ rd', Ins I w F p A rd' rs bs w' ∧ rd ≤ rd' ∧ rd' ≤ rd + bd := by
  refine (h.mut (Q := fun e A' rd' => e = .returned v ∧ A' = A ∧ rd ≤ rd' ∧ rd' ≤ rd + bd) fun F1 hI => (hc F1 hI).mono fun e w' ⟨F', rd', h1, h2, h3, h4, h5⟩ => ⟨F', A, rd', h2, h3, h1, rfl, h4, h5⟩).mono ?_
  rintro e w1 ⟨A', rd', ⟨h1, rfl, h4, h5⟩, h6⟩
  exact ⟨h1, rd', h6, h4, h5⟩
theorem Ins.ends (h : Ins I w F p A rd rs bs wr) : ∃ F', Alters F F' w wr ∧ I.Is wr p A rd F' := by
  obtain ⟨F', f1, f2, f3⟩ := h.mr.has
  refine ⟨F', ⟨h.mr.below.os, h.mr.below.tape, h.mr.below.output, h.mr.below.size, fun k hlt hF => h.kp k ⟨hlt, hF⟩, fun k hF' => ?_⟩, f1⟩
  by_cases hlt : k < w.heap.size
  · by_cases hF : F k
    · exact .inl hF
    · exact absurd hF' (f3 k (.inl ⟨hlt, hF⟩)).2
  · exact .inr (by omega)
theorem Ins.node (h : Ins I w F p A rd rs bs wr) (h0 : 0 ≤ rd) (h1 : rd ≤ 4398046511104) {i : Nat} (hi : i < 4294967296) (hon : A.σ.on i = true) :
    Calls Tryz.prog 33 #[p, .int .u32 (i : Int)] wr fun e w' => e = .returned (.tuple #[.agg (ndRow (A.nd i)), .bool true]) ∧ Ins I w F p A (rd + 1) rs bs w' := by
  refine (h.mut (Q := fun e A' rd' => e = .returned (.tuple #[.agg (ndRow (A.nd i)), .bool true]) ∧ A' = A ∧ rd' = rd + 1) fun F1 hI => (I.node p A rd F1 i wr hI h0 (by omega) hi).mono fun e w' ⟨F', hal, _, h6⟩ => ⟨F', A, rd + 1, hal, (h6 hon).2, (h6 hon).1, rfl, rfl⟩).mono ?_
  rintro e w1 ⟨A', rd', ⟨hq1, rfl, rfl⟩, h6⟩
  exact ⟨hq1, h6⟩
theorem Ins.node_no (h : Ins I w F p A rd rs bs wr) (h0 : 0 ≤ rd) (h1 : rd ≤ 4398046511104) {i : Nat} (hi : i < 4294967296) (hon : A.σ.on i = false) :
    Calls Tryz.prog 33 #[p, .int .u32 (i : Int)] wr fun e w' => e = .returned (.tuple #[.agg (ndRow Nd.zero), .bool false]) ∧ Ins I w F p A rd rs bs w' := by
  refine (h.mut (Q := fun e A' rd' => e = .returned (.tuple #[.agg (ndRow Nd.zero), .bool false]) ∧ A' = A ∧ rd' = rd) fun F1 hI => (I.node p A rd F1 i wr hI h0 (by omega) hi).mono fun e w' ⟨F', hal, h6, _⟩ => ⟨F', A, rd, hal, (h6 hon).2, (h6 hon).1, rfl, rfl⟩).mono ?_
  rintro e w1 ⟨A', rd', ⟨h5, rfl, rfl⟩, h6⟩
  exact ⟨h5, h6⟩
/-- Size of an index: 0 for the empty tree, and then no read -/
theorem Ins.sz (h : Ins I w F p A rd rs bs wr) (h0 : 0 ≤ rd) (h1 : rd ≤ 4398046511104) {i : Nat} (hi : i < 4294967296) (hx : A.Idx i) (hok : A.σ.Ok) :
    Calls Tryz.prog 24 #[p, .int .u32 (i : Int)] wr fun e w' => e = .returned (.int .i64 (A.sz i)) ∧ Ins I w F p A (rd + if i = 0 then 0 else 1) rs bs w' := by
  refine (h.mut (Q := fun e A' rd' => e = .returned (.int .i64 (A.sz i)) ∧ A' = A ∧ rd' = rd + if i = 0 then 0 else 1) fun F1 hI => (I.size p A rd F1 i wr hI h0 (by omega) hi).mono fun e w' ⟨F', hal, h6, h7⟩ => ?_).mono ?_
  · by_cases e0 : i = 0
    · subst e0
      have hoff : A.σ.on 0 = false := by
        cases ho : A.σ.on 0
        · rfl
        · have := hok.on 0 ho; omega
      exact ⟨F', A, rd, hal, (h6 hoff).2, (h6 hoff).1, rfl, by rw [if_pos rfl]; omega⟩
    · have hon := hx.resolve_left e0
      exact ⟨F', A, rd + 1, hal, (h7 hon).2, by rw [(h7 hon).1]; unfold Ar.sz; rw [if_neg e0], rfl, by rw [if_neg e0]⟩
  · rintro e w1 ⟨A', rd', ⟨hq1, rfl, rfl⟩, h6⟩
    exact ⟨hq1, h6⟩
theorem Ins.free (h : Ins I w F p A rd rs bs wr) : Calls Tryz.prog 19 #[p] wr fun e w' => e = .returned (.int .i64 (A.σ.free.length : Int)) ∧ Ins I w F p A rd rs bs w' := by
  obtain ⟨F1, f1, _⟩ := h.mr.has
  exact (I.freeN p A rd F1 wr f1).mono fun e w1 ⟨h3, q, h4⟩ => ⟨h3, by subst h4; exact h.calm (below_drewN (Below.refl _ _) _)⟩
theorem Ins.make (h : Ins I w F p A rd rs bs wr) {held : Nat → Nat} (hv : A.Inv [] held) (ha : A.Agg) (hm : ∀ j, held j ≤ 1048576) {key val : Int} {l r i : Nat} {t : List Nat} (hk : i64R key) (hw : i64R val) (hl : A.Idx l) (hr : A.Idx r) (hs : (A.node key val l r).size ≤ 2147483647) (hf : A.σ.free = i :: t) :
    Calls Tryz.prog 66 #[p, .int .i64 key, .int .i64 val, .int .u32 (l : Int), .int .u32 (r : Int)] wr fun e w' => e = .returned (.tuple #[.int .u32 (i : Int), .int .i64 0]) ∧ Ins I w F p (A.made i t (A.node key val l r)) rd rs bs w' := by
  have hlt : ∀ {x}, A.Idx x → x < 4294967296 := fun {x} hx => by
    rcases hx with rfl | hx
    · omega
    · have := hv.ok.on x hx; have := hv.ok.cap2; omega
  refine (h.mut (Q := fun e A' rd' => e = .returned (.tuple #[.int .u32 (i : Int), .int .i64 0]) ∧ A' = A.made i t (A.node key val l r) ∧ rd' = rd) fun F1 hI => (I.make p A rd F1 key val l r held wr hI hv ha hm hk.1 hk.2 hw.1 hw.2 (hlt hl) (hlt hr)).mono fun e w' ⟨F', hal, _, _, h6⟩ => ?_).mono ?_
  · obtain ⟨h7, h8⟩ := h6 ⟨hl, hr, hs⟩ i t hf
    exact ⟨F', _, rd, hal, h8, h7, rfl, rfl⟩
  · rintro e w1 ⟨A', rd', ⟨hq1, rfl, rfl⟩, h6⟩
    exact ⟨hq1, h6⟩
theorem Ins.release (h : Ins I w F p A rd rs bs wr) {held : Nat → Nat} {i : Nat} (hi : i < 4294967296) (hx : A.Idx i) (hv : A.Inv [i] held) :
    Calls Tryz.prog 42 #[p, .int .u32 (i : Int)] wr fun e w' => e = .returned (.tuple #[.int .i64 (A.freed i : Int), .int .i64 0]) ∧ Ins I w F p (A.gone i) rd rs bs w' := by
  refine (h.mut (Q := fun e A' rd' => e = .returned (.tuple #[.int .i64 (A.freed i : Int), .int .i64 0]) ∧ A' = A.gone i ∧ rd' = rd) fun F1 hI => (I.release p A rd F1 i held wr hI hi (fun _ => hv)).mono fun e w' ⟨F', hal, _, h6⟩ => ⟨F', _, rd, hal, (h6 hx).2, (h6 hx).1, rfl, rfl⟩).mono ?_
  rintro e w1 ⟨A', rd', ⟨hq1, rfl, rfl⟩, h6⟩
  exact ⟨hq1, h6⟩
theorem Ins.retain (h : Ins I w F p A rd rs bs wr) {i : Nat} (hi : i < 4294967296) (hx : A.Idx i) (hc : A.cnt i < 4611686018427387904) :
    Calls Tryz.prog 38 #[p, .int .u32 (i : Int)] wr fun e w' => e = .returned (.int .i64 0) ∧ Ins I w F p (A.ret i) rd rs bs w' := by
  refine (h.mut (Q := fun e A' rd' => e = .returned (.int .i64 0) ∧ A' = A.ret i ∧ rd' = rd) fun F1 hI => (I.retain p A rd F1 i wr hI hi (fun _ => hc)).mono fun e w' ⟨F', hal, _, h6⟩ => ⟨F', _, rd, hal, (h6 hx).2, (h6 hx).1, rfl, rfl⟩).mono ?_
  rintro e w1 ⟨A', rd', ⟨hq1, rfl, rfl⟩, h6⟩
  exact ⟨hq1, h6⟩
end
end Go.Proofs.YtnimbgcploohiaaGreat
set_option linter.unusedVariables false
namespace Go.Proofs.YtnimbgcploohiaaGreat
section
variable {P : Program} {ops : Array Oper} {Q : Exit → Act → World → Prop} {md : Region.Mode} {S : World → Prop} {z : Nat}
/-- whatever order is picked from here on; S holds behind each operation other than number z -/
def anyG (P : Program) (md : Region.Mode) (ops : Array Oper) (Q : Exit → Act → World → Prop) (S : World → Prop) (z : Nat) : Nat → Array Bool → Act → World → Prop
  | 0, ls, a, w => Region.ready md ops ls = [] ∧ Q .normal a w
  | n + 1, ls, a, w => (Region.ready md ops ls = [] → Q .normal a w) ∧
      ∀ k, k ∈ Region.ready md ops ls → wpOp P ops Q k (fun a' w' => (k ≠ z → S w') ∧ anyG P md ops Q S z n (ls.setIfInBounds k true) a' w') a w
theorem anyG_any (n : Nat) : ∀ (ls : Array Bool) (a : Act) (w : World), anyG P md ops Q S z n ls a w → wpAny P md ops Q n ls a w := by
  induction n with
  | zero => exact fun _ _ _ h => h
  | succ n ih => exact fun ls a w h => ⟨h.1, fun k hk => wpOp_mono (fun a' w' h' => ih _ a' w' h'.2) (h.2 k hk)⟩
theorem anyG_begin {id : Nat} {a : Act} {w : World} (hm : P.follows .mixedOrders = true) (hS : S w.drew)
    (h : S w.drew → anyG P .any ops Q S z ops.size (Array.replicate ops.size false) a w.drew) : (Code.region id ops true).wp P Q a w :=
  wp_region_any hm (anyG_any _ _ _ _ (h hS))
/-- number z waits for number k (or there is no number z) -/
def waits (md : Region.Mode) (ops : Array Oper) (z k : Nat) : Bool := (ops[z]?.map fun x => x.after.toList.any fun e => Region.binds md e && e.on == k).getD true
theorem waits_not {k : Nat} (hz : waits md ops z k = true) {ls : Array Bool} (hk : ls.getD k true = false) : ¬ z ∈ Region.ready md ops ls := by
  intro h
  obtain ⟨_, x, hx, hall⟩ := mem_ready.1 h
  unfold waits at hz
  rw [hx] at hz
  simp only [Option.map_some, Option.getD_some, List.any_eq_true, Bool.and_eq_true, beq_iff_eq] at hz
  obtain ⟨e, he, hb, hek⟩ := hz
  have h1 := hall e (by simpa using he) hb
  rw [hek] at h1
  by_cases hlt : k < ls.size
  · simp [hlt] at hk h1
    rw [hk] at h1
    cases h1
  · simp [Array.getElem?_eq_none (Nat.le_of_not_lt hlt)] at h1
/-- an operation that is ready, yields wherever S holds and is apart from what is open: first -/
theorem anyG_front {k : Nat} {o : Oper} {v : Value} (hk : ops[k]? = some o) (hsel : ∀ (j : Nat) (x : Oper) cs b, ops[j]? = some x → x.op ≠ .select cs b) (hz : waits md ops z k = true)
    (hQ : ∀ c a w, Q (.panic c) (a.put o.dst v) w → Q (.panic c) a w) (n : Nat) : ∀ (ls : Array Bool) (a : Act) (w : World),
      (∀ j x, ops[j]? = some x → j ≠ k → ls.getD j true = false → (∀ e ∈ x.after, Region.binds md e = true → e.on ≠ k) → o.apart ops x = true) →
      k ∈ Region.ready md ops ls → YieldsIf P ops S o v a → S w → anyG P md ops Q S z n (ls.setIfInBounds k true) (a.put o.dst v) w → anyG P md ops Q S z (n + 1) ls a w := by
  have base : ∀ (n : Nat) (ls : Array Bool) (a : Act) (w : World), YieldsIf P ops S o v a → S w → anyG P md ops Q S z n (ls.setIfInBounds k true) (a.put o.dst v) w →
      wpOp P ops Q k (fun a' w' => (k ≠ z → S w') ∧ anyG P md ops Q S z n (ls.setIfInBounds k true) a' w') a w :=
    fun n ls a w hy hS H => hy.wpOp hk hS ⟨fun _ => hS, H⟩
  have notNil : ∀ ls, k ∈ Region.ready md ops ls → Region.ready md ops ls ≠ [] := fun ls h e => by rw [e] at h; cases h
  induction n with
  | zero =>
    intro ls a w _ hr hy hS H
    refine ⟨fun e => absurd e (notNil ls hr), fun j hj => ?_⟩
    rcases Nat.decEq j k with hjk | rfl
    · exact absurd (H.1 ▸ ready_mono hj hjk) (by simp)
    · exact base 0 ls a w hy hS H
  | succ n ih =>
    intro ls a w hf hr hy hS H
    refine ⟨fun e => absurd e (notNil ls hr), fun j hj => ?_⟩
    rcases Nat.decEq j k with hjk | rfl
    · obtain ⟨hju, x, hx, hall⟩ := mem_ready.1 hj
      have hku := (mem_ready.1 hr).1
      have hjz : j ≠ z := fun e => waits_not hz hku (e ▸ hj)
      have hno : ∀ e ∈ x.after, Region.binds md e = true → e.on ≠ k := by
        rintro e he hb rfl
        have h1 := hall e he hb
        by_cases hlt : e.on < ls.size
        · simp [hlt] at hku h1
          rw [hku] at h1
          cases h1
        · simp [Array.getElem?_eq_none (Nat.le_of_not_lt hlt)] at h1
      have hs := wpOp_putIf hx (hf j x hx hjk hju hno) (fun cs b => hsel k o cs b hk) (fun cs b => hsel j x cs b hx) hQ hy (H.2 j (ready_mono hj hjk))
      refine wpOp_mono (fun a' w' h3 => ?_) hs
      have hS' : S w' := h3.2.1 hjz
      refine ⟨fun _ => hS', ih _ a' w' (fun i y hy' hik hun hno' => hf i y hy' hik ?_ hno') (ready_mono hr (Ne.symm hjk)) h3.1 hS' (by rw [Array.setIfInBounds_comm _ _ hjk]; exact h3.2.2)⟩
      rcases Nat.decEq j i with hji | rfl
      · rwa [getD_set_ne true hji] at hun
      · exact hju
    · exact base (n + 1) ls a w hy hS H
theorem anyG_take {k : Nat} {o : Oper} {v : Value} {n : Nat} {ls : Array Bool} {a : Act} {w : World} (d : Option Tmp) (hk : ops[k]? = some o) (hs : Region.noSelect ops = true) (hf : Region.free md ops ls k = true) (hr : (Region.ready md ops ls).contains k = true) (hz : waits md ops z k = true)
    (hQ : ∀ c a w, Q (.panic c) (a.put o.dst v) w → Q (.panic c) a w) (hy : YieldsIf P ops S o v a) (hS : S w) (hd : o.dst = d) (h : anyG P md ops Q S z n (ls.setIfInBounds k true) (a.put d v) w) : anyG P md ops Q S z (n + 1) ls a w :=
  anyG_front hk (Region.noSelect_spec hs) hz hQ n ls a w (Region.free_spec hk hf) (by simpa using hr) hy hS (by rw [hd]; exact h)
/-- one operation alone is ready, and it is not number z -/
theorem anyG_one {k : Nat} {o : Oper} {n : Nat} {ls : Array Bool} {a : Act} {w : World} (hr : Region.ready md ops ls = [k]) (hk : ops[k]? = some o)
    (h : ∀ K : Act → World → Prop, Shut (∀ a w, S w → (S w → anyG P md ops Q S z n (ls.setIfInBounds k true) a w) → K a w) → if Region.wanted o (yielded ops a.tmps) = true then Oper.wp P o a w K Q else K (a.put o.dst undef) w) : anyG P md ops Q S z (n + 1) ls a w := by
  refine ⟨fun e => (by rw [hr] at e; cases e), fun j hj => ?_⟩
  rw [hr] at hj
  obtain rfl : j = k := by simpa using hj
  exact wpOp_step hk fun K hK => h K fun a w hS hW => hK a w ⟨fun _ => hS, hW hS⟩
/-- all have come up -/
theorem anyG_done {ls : Array Bool} {a : Act} {w : World} (hr : Region.ready md ops ls = []) (h : Q .normal a w) : ∀ n, anyG P md ops Q S z n ls a w
  | 0 => ⟨hr, h⟩
  | _ + 1 => ⟨fun _ => h, by rw [hr]; simp⟩
/-- the last one -/
theorem anyG_last {o : Oper} {n : Nat} {ls : Array Bool} {a : Act} {w : World} (hr : Region.ready md ops ls = [z]) (hr2 : Region.ready md ops (ls.setIfInBounds z true) = []) (hk : ops[z]? = some o)
    (h : ∀ K : Act → World → Prop, Shut (∀ a w, Q .normal a w → K a w) → if Region.wanted o (yielded ops a.tmps) = true then Oper.wp P o a w K Q else K (a.put o.dst undef) w) : anyG P md ops Q S z (n + 1) ls a w := by
  refine ⟨fun e => (by rw [hr] at e; cases e), fun j hj => ?_⟩
  rw [hr] at hj
  obtain rfl : j = z := by simpa using hj
  refine wpOp_step hk fun K hK => h K fun a w hQ' => hK a w ⟨fun e => absurd rfl e, ?_⟩
  cases n with
  | zero => exact ⟨hr2, hQ'⟩
  | succ n => exact ⟨fun _ => hQ', by rw [hr2]; simp⟩
end
end Go.Proofs.YtnimbgcploohiaaGreat
