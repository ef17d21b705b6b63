/- Of the proofs of SetopsAlgebra, SetopsDistribute: Ens, RefNear, RefSub, ArenaChain, Wf, KitTree, ArSide, KitList. -/
import Derived.Test.YtfihklpofmcfgaaGreatB163
import Derived.Deep.DeepCutAuto
import Derived.Deep.QuietTactic
import Derived.Laws.OwnMore
import Derived.Laws.AppendOwnNone
import Derived.Deep.RegionHeldLaw
import Derived.Deep.RegionHeld3
import Derived.OwnWalk
set_option linter.unusedVariables false
set_option linter.unusedSimpArgs false
namespace Go.Proofs.YtfihklpofmcfgaaGreat
open Go.RowKit
structure En where
  key : Int
  val : Int
  deriving DecidableEq
def enV (e : En) : List Value := [.int .i64 e.key, .int .i64 e.val]
def ensV (l : List En) : List Value := l.flatMap enV
theorem ensV_snoc (l : List En) (e : En) : ensV (l ++ [e]) = ensV l ++ enV e := by simp [ensV]
theorem ensV_at : ∀ (l : List En) (i j : Nat) (e : En), l[i]? = some e → j < 2 → (ensV l)[i * 2 + j]? = (enV e)[j]?
  | [], i, j, e, h, hj => by simp at h
  | a :: t, 0, j, e, h, hj => by
    simp at h; subst h
    show (enV a ++ ensV t)[0 * 2 + j]? = _
    rw [Nat.zero_mul, Nat.zero_add, List.getElem?_append_left (by exact hj)]
  | a :: t, i + 1, j, e, h, hj => by
    simp at h
    show (enV a ++ ensV t)[(i + 1) * 2 + j]? = _
    rw [List.getElem?_append_right (by show 2 ≤ _; omega), show (i + 1) * 2 + j - (enV a).length = i * 2 + j by show (i + 1) * 2 + j - 2 = _; omega]
    exact ensV_at t i j e h hj
def i64R (x : Int) : Prop := -9223372036854775808 ≤ x ∧ x ≤ 9223372036854775807
/-- a slice of entries, read -/
structure EnsAt (w : World) (a : Option Addr) (l : List En) : Prop where
  cell : ∀ j e, l[j]? = some e → ∃ b off, a = some ⟨b, off, none⟩ ∧ b < w.heap.size ∧ w.cell? ⟨b, off + j * 2, none⟩ = some (.int .i64 e.key) ∧ w.cell? ⟨b, off + j * 2 + 1, none⟩ = some (.int .i64 e.val)
  wf : ∀ e ∈ l, i64R e.key ∧ i64R e.val
theorem EnsAt.below {w w' : World} {a : Option Addr} {l : List En} (h : EnsAt w a l) (hb : Below w.heap.size w w') : EnsAt w' a l := by
  refine ⟨fun j e he => ?_, h.wf⟩
  obtain ⟨b, off, ha, hlt, h1, h2⟩ := h.cell j e he
  exact ⟨b, off, ha, Nat.lt_of_lt_of_le hlt hb.size, by rw [← h1]; exact hb.cell (p := ⟨b, off + j * 2, none⟩) hlt, by rw [← h2]; exact hb.cell (p := ⟨b, off + j * 2 + 1, none⟩) hlt⟩
theorem EnsAt.nil (w : World) (a : Option Addr) : EnsAt w a [] := ⟨fun j e he => by simp at he, fun e he => by cases he⟩
theorem ens_at {w : World} {B c : Nat} {a : Option Addr} {l : List En} (h : w.ownsRow B 69 2 (.slice a l.length c) l.length (ensV l)) (hw : ∀ e ∈ l, i64R e.key ∧ i64R e.val) : EnsAt w a l := by
  refine ⟨fun j e he => ?_, hw⟩
  have hj : j < l.length := (List.getElem?_eq_some_iff.1 he).1
  rcases h.2 with ⟨hv, hn⟩ | ⟨g, cap, cur, hv, hB, hc, hn, hcm, hs, ht⟩
  · omega
  · simp only [Value.slice.injEq] at hv
    obtain ⟨rfl, _, _⟩ := hv
    refine ⟨g, 0, rfl, (Array.getElem?_eq_some_iff.1 hc).1, ?_, ?_⟩
    · rw [Nat.zero_add, h.cellAt (j * 2) (by omega), show j * 2 = j * 2 + 0 from rfl, ensV_at l j 0 e he (by omega)]; rfl
    · rw [Nat.zero_add, h.cellAt (j * 2 + 1) (by omega), ensV_at l j 1 e he (by omega)]; rfl
theorem ens_row {w : World} {B n c : Nat} {a : Option Addr} {l : List En} (hn : l.length = n) (h : w.ownsRow B 69 2 (.slice a n c) n (ensV l)) (hw : ∀ e ∈ l, i64R e.key ∧ i64R e.val) : EnsAt w a l := by
  subst hn
  exact ens_at h hw
def insF (e : En) : List En → Bool → List En
  | [], d => if d then [] else [e]
  | x :: t, d => (if (!d && decide (e.key ≤ x.key)) = true then [e] else []) ++ (if x.key ≠ e.key then [x] else []) ++ insF e t (d || (!d && decide (e.key ≤ x.key)))
def insE (l : List En) (e : En) : List En := insF e l false
def listE (l : List En) (k : Nat) : List En := (l.take k).foldl insE []
def Up (l : List En) : Prop := l.Pairwise (fun x y => x.key < y.key)
theorem insF_true (e : En) : ∀ t : List En, insF e t true = t.filter fun x => decide (x.key ≠ e.key)
  | [] => rfl
  | x :: t => by
    unfold insF
    rw [show (true || (!true && decide (e.key ≤ x.key))) = true from rfl, insF_true e t]
    by_cases h : x.key = e.key <;> simp [h]
theorem insF_mem (e : En) : ∀ (l : List En) (d : Bool) (y : En), y ∈ insF e l d → y ∈ l ∨ y = e
  | [], d, y, h => by
    unfold insF at h
    cases d <;> simp at h
    exact .inr h
  | x :: t, d, y, h => by
    unfold insF at h
    rcases List.mem_append.1 h with h | h
    · rcases List.mem_append.1 h with h | h
      · split at h
        · simp at h; exact .inr h
        · cases h
      · split at h
        · simp at h; exact .inl (by simp [h])
        · cases h
    · rcases insF_mem e t _ y h with h | h
      · exact .inl (by simp [h])
      · exact .inr h
theorem insF_up (e : En) : ∀ (l : List En), Up l → Up (insF e l false)
  | [], h => by unfold insF; simp [Up]
  | x :: t, h => by
    unfold Up at h
    rw [List.pairwise_cons] at h
    unfold insF
    by_cases hx : e.key ≤ x.key
    · have e1 : (!false && decide (e.key ≤ x.key)) = true := by simp [hx]
      rw [if_pos e1, show (false || (!false && decide (e.key ≤ x.key))) = true by simp [hx], insF_true]
      have hf : Up (t.filter fun x => decide (x.key ≠ e.key)) := h.2.filter _
      have hm : ∀ y ∈ t.filter (fun x => decide (x.key ≠ e.key)), x.key < y.key := fun y hy => h.1 y (List.mem_filter.1 hy).1
      by_cases hne : x.key ≠ e.key
      · rw [if_pos hne]
        show Up (e :: x :: t.filter _)
        unfold Up
        rw [List.pairwise_cons, List.pairwise_cons]
        refine ⟨fun y hy => ?_, hm, hf⟩
        rcases List.mem_cons.1 hy with rfl | hy
        · omega
        · have := hm y hy; omega
      · rw [if_neg hne]
        show Up (e :: t.filter _)
        unfold Up
        rw [List.pairwise_cons]
        exact ⟨fun y hy => by have := hm y hy; omega, hf⟩
    · have e1 : ¬ (!false && decide (e.key ≤ x.key)) = true := by simp [hx]
      rw [if_neg e1, show (false || (!false && decide (e.key ≤ x.key))) = false by simp [hx], if_pos (show x.key ≠ e.key by omega)]
      show Up (x :: insF e t false)
      unfold Up
      rw [List.pairwise_cons]
      refine ⟨fun y hy => ?_, insF_up e t h.2⟩
      rcases insF_mem e t false y hy with h1 | rfl
      · exact h.1 y h1
      · omega
theorem insF_len (e : En) : ∀ (l : List En) (d : Bool), (insF e l d).length ≤ l.length + (if d then 0 else 1)
  | [], d => by unfold insF; cases d <;> simp
  | x :: t, d => by
    unfold insF
    have h := insF_len e t (d || (!d && decide (e.key ≤ x.key)))
    cases d
    · by_cases hx : e.key ≤ x.key
      · simp [hx] at h ⊢
        split <;> simp <;> omega
      · simp [hx] at h ⊢
        split <;> simp <;> omega
    · simp at h ⊢
      split <;> simp <;> omega
theorem insE_up {l : List En} (e : En) (h : Up l) : Up (insE l e) := insF_up e l h
theorem insE_mem {l : List En} {e y : En} (h : y ∈ insE l e) : y ∈ l ∨ y = e := insF_mem e l false y h
theorem insE_len (l : List En) (e : En) : (insE l e).length ≤ l.length + 1 := by have h := insF_len e l false; unfold insE; simp at h; omega
theorem foldl_up : ∀ (l acc : List En), Up acc → Up (l.foldl insE acc)
  | [], acc, h => h
  | x :: t, acc, h => foldl_up t _ (insE_up x h)
theorem foldl_len : ∀ (l acc : List En), (l.foldl insE acc).length ≤ acc.length + l.length
  | [], acc => by simp
  | x :: t, acc => by
    have h1 := foldl_len t (insE acc x)
    have h2 := insE_len acc x
    simp only [List.foldl_cons, List.length_cons]
    omega
theorem foldl_mem : ∀ (l acc : List En) (y : En), y ∈ l.foldl insE acc → y ∈ acc ∨ y ∈ l
  | [], acc, y, h => .inl h
  | x :: t, acc, y, h => by
    rcases foldl_mem t _ y h with h1 | h1
    · rcases insE_mem h1 with h2 | h2
      · exact .inl h2
      · exact .inr (by simp [h2])
    · exact .inr (by simp [h1])
theorem listE_up (l : List En) (k : Nat) : Up (listE l k) := foldl_up _ _ List.Pairwise.nil
theorem listE_len (l : List En) (k : Nat) : (listE l k).length ≤ k := by have h := foldl_len (l.take k) []; have h2 := List.length_take_le k l; unfold listE; simp at h; omega
theorem listE_mem {l : List En} {k : Nat} {y : En} (h : y ∈ listE l k) : y ∈ l := by
  rcases foldl_mem _ _ y h with h1 | h1
  · cases h1
  · exact List.mem_of_mem_take h1
theorem listE_succ {l : List En} {k : Nat} (h : k < l.length) : listE l (k + 1) = insE (listE l k) l[k] := by
  unfold listE
  rw [List.take_succ_eq_append_getElem h, List.foldl_append]
  rfl
theorem enInfo : (Tryz.prog.info? 69).map (fun i => (i.zero, i.size, i.bytes)) = some (some (.agg #[.int .i64 0, .int .i64 0]), 2, 16) := by kernel_rfl
structure ESt (Z : Nat) (w2 : World) (l : List En) (v : Value) (wr : World) : Prop where
  val : ∃ a c, v = .slice a l.length c
  row : wr.ownsRow Z 69 2 v l.length (ensV l)
  below : Below Z w2 wr
section
variable {Z : Nat} {w2 wr w' : World} {l : List En} {v v' : Value}
theorem ESt.from (h : ESt Z w2 l v wr) (hb : Below wr.heap.size wr w') (hZ : w2.heap.size = Z) : ESt Z w2 l v w' :=
  ⟨h.val, row_below h.row hb, h.below.trans (hb.mono (by have := h.below.size; omega))⟩
theorem ESt.start (w2 : World) (hZ : w2.heap.size = Z) : ESt Z w2 [] (.slice none 0 0) w2 := ⟨⟨none, 0, rfl⟩, World.ownsRow_nil _ _ _ _, Below.refl _ _⟩
theorem cell_newE (w : World) (e : En) (t : TypeId) : ∀ j v, (enV e)[j]? = some v → (w.alloc (.cells #[.int .i64 e.key, .int .i64 e.val] t)).cell? ((⟨w.heap.size, 0, none⟩ : Addr).add j) = some v := by
  intro j v hu
  match j, hu with
  | 0, hu => simp [enV] at hu; subst hu; simp [Addr.add]
  | 1, hu => simp [enV] at hu; subst hu; simp [Addr.add]
theorem en_one (e : En) : ∀ u ∈ enV e, u.oneCell' = true := by
  intro u hu
  simp [enV] at hu
  rcases hu with rfl | rfl <;> rfl
theorem wpList_append_en {ops : Array Oper} {rest : List Oper} {o : Oper} {a : Act} {w : World} {Q : Exit → Act → World → Prop} (hgd : o.guard = none) (s x : Operand)
    (ho : o.op = .call { callee := .builtin .append, args := #[s, x], argTypes := #[22, 22] })
    (hc : ESt Z w2 l v w) (hZ : w2.heap.size = Z) (hs : a.eval s = v) (e : En) (g : Nat) (hx : a.eval x = .slice (some ⟨g, 0, none⟩) 1 1)
    (hn : ∀ j u, (enV e)[j]? = some u → w.cell? ((⟨g, 0, none⟩ : Addr).add j) = some u) (hl : l.length ≤ 100000000)
    (h : ∀ v' w', ESt Z w2 (l ++ [e]) v' w' → wpList Tryz.prog ops Q rest (a.put o.dst v') w') : wpList Tryz.prog ops Q (o :: rest) a w := by
  obtain ⟨i, ji, jz0, jz1, jz2⟩ := info_parts enInfo
  refine wpList_append_own _ hgd s x 22 ho Z 69 i (.agg #[.int .i64 0, .int .i64 0]) 2 16 Tryz.underlying22 ji jz0 jz1 jz2 rfl (by decide) v l.length (ensV l) hs hc.row ⟨g, 0, none⟩ 1 1 (enV e) hx rfl hn (en_one e) (by unfold maxLen; omega) (by omega) (by have := hc.below.size; omega) ?_
  intro v' w' ho' hg _
  refine h v' w' ?_
  obtain ⟨a', c', hv⟩ := row_val ho'
  refine ⟨⟨a', c', by rw [List.length_append]; exact hv⟩, ?_, hc.below.grown hg (by have := hc.below.size; omega) (row_from hc.row)⟩
  rw [List.length_append, ensV_snoc]
  exact ho'
end
def MadeEns (w : World) (l : List En) (e : Ending) (w' : World) : Prop :=
  ∃ a c, e = .returned (.slice a l.length c) ∧ w'.ownsRow w.heap.size 69 2 (.slice a l.length c) l.length (ensV l) ∧ Below w.heap.size w w'
def rankE (l : List En) (k : Int) : Nat := l.countP fun e => decide (e.key < k)
def getE (l : List En) (k : Int) : Option En := l.find? fun e => decide (e.key = k)
def selE (l : List En) (i : Int) : Option En := if 0 ≤ i then l[i.toNat]? else none
def floorE (l : List En) (k : Int) : Option En := if (getE l k).isSome then selE l (rankE l k) else selE l ((rankE l k : Int) - 1)
def ceilE (l : List En) (k : Int) : Option En := selE l (rankE l k)
def belowE (l : List En) (k : Int) : Option En := selE l ((rankE l k : Int) - 1)
/-- the cells of an entry, of none zeros -/
def enA (o : Option En) : Array Value := #[.int .i64 (o.elim 0 (·.key)), .int .i64 (o.elim 0 (·.val))]
theorem rankE_le (l : List En) (k : Int) : rankE l k ≤ l.length := List.countP_le_length
theorem getE_step {l : List En} {j : Nat} {e : En} (h : l[j]? = some e) (k : Int) : getE (l.drop j) k = if e.key = k then some e else getE (l.drop (j + 1)) k := by
  obtain ⟨hj, he⟩ := List.getElem?_eq_some_iff.1 h
  unfold getE
  rw [List.drop_eq_getElem_cons hj, he, List.find?_cons]
  by_cases hk : e.key = k <;> simp [hk]
theorem EnsAt.at {w : World} {a : Option Addr} {l : List En} {j : Nat} {e : En} (h : EnsAt w a l) (he : l[j]? = some e) : ∃ b off, a = some ⟨b, off, none⟩ ∧ b < w.heap.size ∧ w.cell? ⟨b, off + j * 2, none⟩ = some (.int .i64 e.key) ∧ w.cell? ⟨b, off + j * 2 + 1, none⟩ = some (.int .i64 e.val) := h.cell j e he
theorem two_ofE {w : World} {g : Nat} {x y : Int} {ty : TypeId} (h : w.heap[g]? = some (.cells #[.int .i64 x, .int .i64 y] ty (0, 0))) : w.cell? ⟨g, 0, none⟩ = some (.int .i64 x) ∧ w.cell? ⟨g, 1, none⟩ = some (.int .i64 y) := by
  constructor <;> (rw [cell_of_row _ _ _ _ _ _ h]; rfl)
def betE (l : List En) (lo hi : Int) : List En := l.filter fun e => decide (lo ≤ e.key ∧ e.key ≤ hi)
end Go.Proofs.YtfihklpofmcfgaaGreat
namespace Go.Proofs.YtfihklpofmcfgaaGreat
/-- a reference that isn't the last one is removed, one of 0 too -/
theorem gone_shared {A : Ar} {i : Nat} (h0 : i ≠ 0) (hc : A.cnt i ≠ 1) : A.gone i = A.dec i ∧ A.freed i = 0 := by
  unfold Ar.gone Ar.freed Ar.fuel
  have h1 : Ar.run (3 * A.σ.cap + 1) A [i] = Ar.run (3 * A.σ.cap) (A.dec i) [] := by
    conv => lhs; unfold Ar.run
    rw [if_neg h0, if_neg hc]
  rw [h1]
  cases 3 * A.σ.cap <;> exact ⟨rfl, rfl⟩
theorem gone_zero (A : Ar) : A.gone 0 = A ∧ A.freed 0 = 0 := by
  unfold Ar.gone Ar.freed Ar.fuel
  have h1 : Ar.run (3 * A.σ.cap + 1) A [0] = Ar.run (3 * A.σ.cap) A [] := by
    conv => lhs; unfold Ar.run
    rw [if_pos rfl]
  rw [h1]
  cases 3 * A.σ.cap <;> exact ⟨rfl, rfl⟩
/-- the root alone is held -/
def hk (k : Nat) : Nat → Nat := fun j => if j = k ∧ k ≠ 0 then 1 else 0
/-- what was there stays, nodes and all -/
structure Ar.Kept (A B : Ar) : Prop where
  cap : B.σ.cap = A.σ.cap
  on : ∀ j, A.σ.on j = true → B.σ.on j = true
  nd : ∀ j, A.σ.on j = true → B.nd j = A.nd j
theorem Ar.Kept.refl (A : Ar) : A.Kept A := ⟨rfl, fun _ h => h, fun _ _ => rfl⟩
theorem Ar.Kept.trans {A B C : Ar} (h : A.Kept B) (h' : B.Kept C) : A.Kept C := ⟨h'.cap.trans h.cap, fun j hj => h'.on j (h.on j hj), fun j hj => (h'.nd j (h.on j hj)).trans (h.nd j hj)⟩
theorem Ar.Kept.dec (A : Ar) (i : Nat) : A.Kept (A.dec i) := ⟨rfl, fun _ h => h, fun _ _ => rfl⟩
theorem Ar.Kept.idx {A B : Ar} (h : A.Kept B) {i : Nat} (hi : i = 0 ∨ A.σ.on i = true) : i = 0 ∨ B.σ.on i = true := hi.imp_right (h.on i)
theorem Ar.Kept.made {A : Ar} {i : Nat} {t : List Nat} (x : Nd) {s : List Nat} {held : Nat → Nat} (h : A.Inv s held) (hf : A.σ.free = i :: t) : A.Kept (A.made i t x) := by
  have hi := ((h.ok.free i).1 (by rw [hf]; simp)).2.2
  have hne : ∀ j, A.σ.on j = true → j ≠ i := fun j hj e => by subst e; rw [hi] at hj; cases hj
  exact ⟨rfl, fun j hj => (take_other A.σ t (hne j hj)).trans hj, fun j hj => if_neg (hne j hj)⟩
theorem Sub.kept {A B : Ar} (hk : A.Kept B) {i : Nat} {t : Tr} (h : Sub A i t) : Sub B i t := by
  induction h with
  | nil => exact .nil
  | node i l r h0 h1 hl hr ihl ihr => exact .node i l r h0 (hk.on i h1) (by rw [hk.nd i h1]; exact ihl) (by rw [hk.nd i h1]; exact ihr)
theorem Sub.on {A : Ar} {i : Nat} {t : Tr} (h : Sub A i t) : ∀ j ∈ t.idx, A.σ.on j = true := by
  induction h with
  | nil => intro j hj; cases hj
  | node i l r h0 h1 hl hr ihl ihr =>
    intro j hj
    unfold Tr.idx at hj
    rcases List.mem_append.1 hj with hj | hj
    · exact ihl j hj
    · rcases List.mem_cons.1 hj with rfl | hj
      · exact h1
      · exact ihr j hj
/-- the entries in the order of the tree -/
def Tr.ents (nd : Nat → Nd) (t : Tr) : List En := t.idx.map fun i => ⟨(nd i).key, (nd i).val⟩
theorem Tr.ents_node (nd : Nat → Nd) (i : Nat) (l r : Tr) : (Tr.node i l r).ents nd = l.ents nd ++ ⟨(nd i).key, (nd i).val⟩ :: r.ents nd := by simp [Tr.ents, Tr.idx]
theorem Tr.ents_keys (nd : Nat → Nd) (t : Tr) : t.keys nd = (t.ents nd).map (·.key) := by simp [Tr.keys, Tr.ents]
theorem Tr.idx_len : ∀ t : Tr, t.idx.length = t.size
  | .nil => rfl
  | .node i l r => by simp [Tr.idx, Tr.size, Tr.idx_len l, Tr.idx_len r]; omega
theorem Tr.ents_len (nd : Nat → Nd) (t : Tr) : (t.ents nd).length = t.size := by unfold Tr.ents; rw [List.length_map, Tr.idx_len]
theorem Tr.ents_kept {A B : Ar} (hk : A.Kept B) {i : Nat} {t : Tr} (h : Sub A i t) : t.ents B.nd = t.ents A.nd := by
  unfold Tr.ents
  exact List.map_congr_left fun j hj => by rw [hk.nd j (h.on j hj)]
/-- balanced, by the sizes of the trees -/
def Tr.bal : Tr → Bool
  | .nil => true
  | .node i l r => Proofs.YtfihklpofmcfgaaGreat.bal (l.size : Int) (r.size : Int) && l.bal && r.bal
theorem balT_bal {A : Ar} (ha : A.Agg) {i : Nat} {t : Tr} (h : Sub A i t) : balT A t = t.bal := by
  induction h with
  | nil => rfl
  | node i l r h0 h1 hl hr ihl ihr => unfold balT Tr.bal; rw [hl.size ha, hr.size ha, ihl, ihr]
/-- a reference more, of 0 none -/
def pls (held : Nat → Nat) (i : Nat) : Nat → Nat := if i = 0 then held else more held i
theorem pls_zero (held : Nat → Nat) : pls held 0 = held := rfl
theorem pls_at (held : Nat → Nat) (i j : Nat) : pls held i j = held j + (if i ≠ 0 ∧ j = i then 1 else 0) := by
  unfold pls more
  by_cases h : i = 0
  · rw [if_pos h, if_neg (fun h1 => h1.1 h)]; rfl
  · rw [if_neg h]
    by_cases e : j = i
    · subst e; show (if j = j then _ else _) = _; rw [if_pos rfl, if_pos ⟨h, rfl⟩]
    · show (if j = i then _ else _) = _; rw [if_neg e, if_neg (fun h1 => e h1.2)]; rfl
theorem more_pls {held : Nat → Nat} {i : Nat} (h : i ≠ 0) : more held i = pls held i := by unfold pls; rw [if_neg h]
/-- a reference less, of 0 none -/
def mns (held : Nat → Nat) (i : Nat) : Nat → Nat := if i = 0 then held else less held i
theorem mns_at (held : Nat → Nat) (i j : Nat) : mns held i j = held j - (if i ≠ 0 ∧ j = i then 1 else 0) := by
  unfold mns less
  by_cases h : i = 0
  · rw [if_pos h, if_neg (fun h1 => h1.1 h)]; rfl
  · rw [if_neg h]
    by_cases e : j = i
    · subst e; show (if j = j then _ else _) = _; rw [if_pos rfl, if_pos ⟨h, rfl⟩]
    · show (if j = i then _ else _) = _; rw [if_neg e, if_neg (fun h1 => e h1.2)]; rfl
/-- a held reference given back where another one is there -/
theorem Ar.Inv.shared {A : Ar} {held : Nat → Nat} (h : A.Inv [] held) {i : Nat} (hi : i ≠ 0 → 0 < held i ∧ 2 ≤ A.cnt i) (ha : A.Agg) :
    (A.Idx i → A.Inv [i] (mns held i)) ∧ A.Idx i ∧ (A.gone i).Inv [] (mns held i) ∧ (A.gone i).Agg ∧ A.Kept (A.gone i) ∧ (A.gone i).σ = A.σ ∧ ∀ j, (A.gone i).cnt j = A.cnt j - (if i ≠ 0 ∧ j = i then 1 else 0) := by
  by_cases h0 : i = 0
  · subst h0
    rw [(gone_zero A).1]
    exact ⟨fun _ => h.give0, .inl rfl, h, ha, .refl A, rfl, fun j => by rw [if_neg (fun h => h.1 rfl)]; omega⟩
  · obtain ⟨h1, h2⟩ := hi h0
    have hon := h.held i h1
    rw [(gone_shared h0 (by omega)).1]
    have e : mns held i = less held i := by unfold mns; rw [if_neg h0]
    rw [e]
    refine ⟨fun _ => h.give h1, .inr hon, (h.give h1).popDec hon h2, ha.dec i, .dec A i, rfl, fun j => ?_⟩
    show (if j = i then A.cnt i - 1 else A.cnt j) = _
    by_cases e2 : j = i
    · subst e2; rw [if_pos rfl, if_pos ⟨h0, rfl⟩]
    · rw [if_neg e2, if_neg (fun h => e2 h.2)]; omega
structure Planted (A : Ar) (held : Nat → Nat) (l : List En) (A' : Ar) (i : Nat) (t : Tr) : Prop where
  kept : A.Kept A'
  inv : A'.Inv [] (pls held i)
  agg : A'.Agg
  sub : Sub A' i t
  ents : t.ents A'.nd = l
  bal : t.bal = true
  free : A'.σ.free.length + l.length = A.σ.free.length
theorem Planted.nil {A : Ar} {held : Nat → Nat} (h : A.Inv [] held) (ha : A.Agg) : Planted A held [] A 0 .nil := ⟨.refl A, h, ha, .nil, rfl, rfl, rfl⟩
theorem Planted.size {A A' : Ar} {held : Nat → Nat} {l : List En} {i : Nat} {t : Tr} (h : Planted A held l A' i t) : t.size = l.length := by rw [← h.ents, Tr.ents_len]
theorem Planted.sz {A A' : Ar} {held : Nat → Nat} {l : List En} {i : Nat} {t : Tr} (h : Planted A held l A' i t) : A'.sz i = (l.length : Int) := by rw [h.sub.size h.agg, h.size]
/-- the state behind Make and the two releases -/
def Ar.over (A : Ar) (i : Nat) (tl : List Nat) (x : Nd) : Ar := ((A.made i tl x).gone x.left).gone x.right
theorem made_cnt {A : Ar} {held : Nat → Nat} {i : Nat} {tl : List Nat} {x : Nd} (h : A.Inv [] held) (hf : A.σ.free = i :: tl) {j : Nat} (hj : A.σ.on j = true) : (A.made i tl x).cnt j = A.cnt j + (hit x.left j : Int) + (hit x.right j : Int) := by
  have hi := ((h.ok.free i).1 (by rw [hf]; simp)).2.2
  have hne : j ≠ i := fun e => by subst e; rw [hi] at hj; cases hj
  have h0 := (h.ok.on j hj).1
  show (if j = i then (1 : Int) else if j = 0 then A.cnt 0 else A.cnt j + _ + _) = _
  rw [if_neg hne, if_neg (by omega)]
theorem over_ok {A : Ar} {held : Nat → Nat} {i : Nat} {tl : List Nat} {key val : Int} {il ir : Nat} {x : Nd} (hx : x = A.node key val il ir) (h : A.Inv [] (pls (pls held il) ir)) (ha : A.Agg) (hf : A.σ.free = i :: tl) (hl : il = 0 ∨ A.σ.on il = true) (hr : ir = 0 ∨ A.σ.on ir = true) (hs : x.size ≤ 2147483647) :
    (A.over i tl x).Inv [] (pls held i) ∧ (A.over i tl x).Agg ∧ A.Kept (A.over i tl x) ∧ (A.over i tl x).σ = A.σ.take i tl ∧ (A.over i tl x).nd i = x ∧ i ≠ 0 ∧
    ((A.made i tl x).Idx il → (A.made i tl x).Inv [il] (mns (more (pls (pls held il) ir) i) il)) ∧ (A.made i tl x).Idx il ∧
    (((A.made i tl x).gone il).Idx ir → ((A.made i tl x).gone il).Inv [ir] (mns (mns (more (pls (pls held il) ir) i) il) ir)) ∧ ((A.made i tl x).gone il).Idx ir := by
  have hi := (h.ok.free i).1 (by rw [hf]; simp)
  have h1 := h.made (x := x) hf (by rw [hx]; exact hl) (by rw [hx]; exact hr)
  have ha1 : (A.made i tl x).Agg := by rw [hx]; exact ha.made h hf hl hr (by rw [← hx]; exact hs)
  have ex : x.left = il ∧ x.right = ir := by rw [hx]; exact ⟨rfl, rfl⟩
  have hne : ∀ j, A.σ.on j = true → j ≠ i := fun j hj e => by subst e; rw [hi.2.2] at hj; cases hj
  have pl := fun j => pls_at (pls held il) ir j
  have pl2 := fun j => pls_at held il j
  have c1 : il ≠ 0 → 0 < more (pls (pls held il) ir) i il ∧ 2 ≤ (A.made i tl x).cnt il := fun h0 => by
    have hon := hl.resolve_left h0
    refine ⟨?_, ?_⟩
    · unfold more
      rw [if_neg (hne il hon), pl, pl2, if_pos ⟨h0, rfl⟩]; omega
    · rw [made_cnt h hf hon, ex.1]
      have := h.pos il hon
      have e : hit il il = 1 := if_pos rfl
      rw [e]; omega
  obtain ⟨g1, g2, g3, g4, g5, g6, g7⟩ := h1.shared c1 ha1
  have c2 : ir ≠ 0 → 0 < mns (more (pls (pls held il) ir) i) il ir ∧ 2 ≤ ((A.made i tl x).gone il).cnt ir := fun h0 => by
    have hon := hr.resolve_left h0
    refine ⟨?_, ?_⟩
    · rw [mns_at]
      unfold more
      rw [if_neg (hne ir hon), pl, pl2]
      rw [if_pos (show ir ≠ 0 ∧ ir = ir from ⟨h0, rfl⟩)]
      split <;> omega
    · rw [g7, made_cnt h hf hon, ex.1, ex.2]
      have := h.pos ir hon
      have e : hit ir ir = 1 := if_pos rfl
      rw [e]
      unfold hit
      by_cases e2 : il = ir
      · rw [if_pos e2, if_pos ⟨by omega, e2.symm⟩]; omega
      · rw [if_neg e2, if_neg (fun h => e2 h.2.symm)]; omega
  obtain ⟨k1, k2, k3, k4, k5, k6, k7⟩ := g3.shared c2 g4
  have eo : A.over i tl x = ((A.made i tl x).gone il).gone ir := by unfold Ar.over; rw [ex.1, ex.2]
  have hheld : mns (mns (more (pls (pls held il) ir) i) il) ir = pls held i := by
    funext j
    have hj1 := mns_at (mns (more (pls (pls held il) ir) i) il) ir j
    have hj2 := mns_at (more (pls (pls held il) ir) i) il j
    rw [hj1, hj2, more_pls (by omega), pls_at, pls_at, pls_at, pls_at]
    omega
  have hkm := Ar.Kept.made (i := i) (t := tl) x h hf
  rw [eo]
  refine ⟨hheld ▸ k3, k4, (hkm.trans g5).trans k5, ?_, ?_, by omega, g1, g2, k1, k2⟩
  · rw [k6, g6]; rfl
  · have hon : (A.made i tl x).σ.on i = true := take_same A.σ i tl
    rw [k5.nd i (g5.on i hon), g5.nd i hon]
    show (if i = i then x else _) = x
    rw [if_pos rfl]
theorem Planted.node {A A1 A2 : Ar} {held : Nat → Nat} {l1 l2 : List En} {e : En} {il ir i : Nat} {tl tr : Tr} {fr : List Nat} {x : Nd} (h1 : Planted A held l1 A1 il tl) (h2 : Planted A1 (pls held il) l2 A2 ir tr) (hf : A2.σ.free = i :: fr)
    (hx : x = A2.node e.key e.val il ir) (hb : Proofs.YtfihklpofmcfgaaGreat.bal (l1.length : Int) (l2.length : Int) = true) (hs : (l1.length + l2.length + 1 : Int) ≤ 2147483647) : Planted A held (l1 ++ e :: l2) (A2.over i fr x) i (.node i tl tr) ∧ x.size ≤ 2147483647 := by
  have hsl := h1.sub.kept h2.kept
  have hszl : A2.sz il = (l1.length : Int) := by rw [hsl.size h2.agg, h1.size]
  have hszr := h2.sz
  have hsz : x.size ≤ 2147483647 := by
    rw [hx]
    show 1 + A2.sz il + A2.sz ir ≤ _
    rw [hszl, hszr]; omega
  obtain ⟨o1, o2, o3, o4, o5, o6, _⟩ := over_ok hx h2.inv h2.agg hf hsl.idx h2.sub.idx hsz
  have oi : (A2.over i fr x).σ.on i = true := by rw [o4]; exact take_same A2.σ i fr
  have ex : x.left = il ∧ x.right = ir ∧ x.key = e.key ∧ x.val = e.val := by rw [hx]; exact ⟨rfl, rfl, rfl, rfl⟩
  refine ⟨⟨(h1.kept.trans h2.kept).trans o3, o1, o2, ?_, ?_, ?_, ?_⟩, hsz⟩
  · exact .node i tl tr o6 oi (by rw [o5, ex.1]; exact hsl.kept o3) (by rw [o5, ex.2.1]; exact h2.sub.kept o3)
  · rw [Tr.ents_node, o5, Tr.ents_kept o3 hsl, Tr.ents_kept o3 h2.sub, Tr.ents_kept h2.kept h1.sub, h1.ents, h2.ents, ex.2.2.1, ex.2.2.2]
  · unfold Tr.bal
    rw [h1.size, h2.size, hb, h1.bal, h2.bal]; rfl
  · have f1 := h1.free
    have f2 := h2.free
    have f3 : (A2.over i fr x).σ.free = fr := by rw [o4]; rfl
    rw [f3]
    rw [hf] at f2
    simp only [List.length_append, List.length_cons] at f2 ⊢
    omega
def Ar.Wf (A : Ar) : Prop := ∀ i, A.σ.on i = true → i64R (A.nd i).key ∧ i64R (A.nd i).val
theorem Ar.Wf.made {A : Ar} {i : Nat} {t : List Nat} {x : Nd} (h : A.Wf) (hx : i64R x.key ∧ i64R x.val) : (A.made i t x).Wf := fun j hj => by
  by_cases e : j = i
  · have e1 : (A.made i t x).nd j = x := if_pos e
    rw [e1]; exact hx
  · have e1 : (A.made i t x).nd j = A.nd j := if_neg e
    rw [e1]; exact h j (take_is hj e)
theorem run_on : ∀ (f : Nat) (A : Ar) (s : List Nat) (j : Nat), (Ar.run f A s).1.σ.on j = true → A.σ.on j = true ∧ (Ar.run f A s).1.nd j = A.nd j
  | 0, A, s, j, h => ⟨h, rfl⟩
  | f + 1, A, [], j, h => ⟨h, rfl⟩
  | f + 1, A, i :: t, j, h => by
    unfold Ar.run at h ⊢
    by_cases h0 : i = 0
    · rw [if_pos h0] at h ⊢; exact run_on f A t j h
    · rw [if_neg h0] at h ⊢
      by_cases h1 : A.cnt i = 1
      · rw [if_pos h1] at h ⊢
        obtain ⟨h2, h3⟩ := run_on f (A.drop i) _ j h
        obtain ⟨h4, h5⟩ := put_is h2
        exact ⟨h5, h3.trans (if_neg h4)⟩
      · rw [if_neg h1] at h ⊢
        exact run_on f (A.dec i) t j h
theorem Ar.Wf.gone {A : Ar} (h : A.Wf) (i : Nat) : (A.gone i).Wf := fun j hj => by
  obtain ⟨h1, h2⟩ := run_on A.fuel A [i] j hj
  have e : (A.gone i).nd j = A.nd j := h2
  rw [e]; exact h j h1
open Go.RowKit
theorem least_any (n : Nat) (w : World) (hn : n ≤ 2147483647) : Calls Tryz.prog 90 #[.int .i64 (n : Int)] w fun e w' => e = .returned (.int .i64 ((n / 4 : Nat) : Int)) ∧ w = w' := by
  have hm : max (0 : Int) (n : Int) = (n : Int) := by omega
  have hq : (n : Int).tdiv 4 = ((n / 4 : Nat) : Int) := by rw [Int.tdiv_eq_ediv_of_nonneg (by omega)]; omega
  have hw : wrap64 ((n : Int).tdiv 4) = ((n / 4 : Nat) : Int) := by rw [hq]; unfold wrap64; omega
  have hni : (n : Int) ≤ 2147483647 := by omega
  have hn0 : (0 : Int) ≤ (n : Int) := by omega
  have HW := Lib.hid hw
  clear hq hw
  go_enter Tryz.func90, Tryz.ntmps90
  go_wp2_with fail
  all_goals
    go_ret
    exact ⟨by first | rfl | (simp; omega), rfl⟩
theorem bal_between {lo n p : Int} (h : bal lo (n - 1 - lo) = true) (h1 : lo ≤ p) (h2 : p ≤ n - 1 - lo) (hn : n ≤ 2147483647) : bal p (n - 1 - p) = true := by
  unfold bal at h ⊢
  have := of_decide_eq_true h
  exact decide_eq_true (by omega)
set_option maxHeartbeats 2000000 in
set_option maxRecDepth 100000 in
theorem pivot_any (n : Nat) (tilt : Int) (w : World) (h1 : 1 ≤ n) (hn : n ≤ 2147483647) (ht0 : 0 ≤ tilt) (ht1 : tilt < 18446744073709551616) :
    Calls Tryz.prog 64 #[.int .i64 (n : Int), .int .u64 tilt] w fun e w' => (∃ p : Nat, e = .returned (.int .i64 (p : Int)) ∧ p < n ∧ bal (p : Int) ((n : Int) - 1 - (p : Int)) = true) ∧ w = w' := by
  have hni : (n : Int) ≤ 2147483647 := by omega
  have hn1 : (1 : Int) ≤ (n : Int) := by omega
  have HN : Hid (1 ≤ n ∧ n ≤ 2147483647) := ⟨h1, hn⟩
  have HT : Hid (0 ≤ tilt ∧ tilt < 18446744073709551616) := ⟨ht0, ht1⟩
  have hw1 : IntKind.i64.wrap ((n : Int) - 1) = (n : Int) - 1 := by rw [IntKind.wrap_i64]; omega
  have HW1 := Lib.hid hw1
  clear h1 hn ht0 ht1 hw1
  go_enter Tryz.func64, Tryz.ntmps64
  go_wp2_with fail
  refine (least_any n w HN.out.2).mono ?_
  rintro e w7 ⟨rfl, rfl⟩
  go_wp2_with fail
  go_loopw [5] (fun x wr => ∃ lo : Nat, x = .int .i64 (lo : Int) ∧ 2 * lo ≤ n - 1 ∧ w = wr) (fun x _ => (intOf x).toNat)
  case atStart => exact ⟨n / 4, rfl, by have := HN.out; omega, rfl⟩
  case round =>
    obtain ⟨lo, rfl, hlo, rfl⟩ := hrel
    have HLO := Lib.hid hlo
    by_cases h0 : lo = 0
    · have hlt1 : decide ((0 : Int) < (lo : Int)) = false := decide_eq_false (by omega)
      have hlt0 : ¬ (0 : Int) < (lo : Int) := by omega
      clear hlo h0
      go_wp2_with fail
      go_loopw [5] (fun x wr => ∃ lo : Nat, x = .int .i64 (lo : Int) ∧ 2 * lo ≤ n - 1 ∧ w = wr) (fun x _ => n - (intOf x).toNat)
      case atStart => exact ⟨lo, rfl, HLO.out, rfl⟩
      case round =>
        clear HLO
        obtain ⟨lo, rfl, hlo, rfl⟩ := hrel
        have HLO := Lib.hid hlo
        have hw1 := HW1.out
        by_cases hl : lo < n - 1
        · obtain ⟨li, hli⟩ : ∃ Y : Int, (lo : Int) = Y := ⟨_, rfl⟩
          have HLI := Lib.hid hli
          rw [hli]
          have hw2 : IntKind.i64.wrap ((n : Int) - 1 - li) = (n : Int) - 1 - li := by rw [IntKind.wrap_i64]; omega
          have hlt1 : decide (li < (n : Int) - 1) = true := decide_eq_true (by omega)
          have HL2 : Hid (lo < n - 1) := hl
          clear hli hl hlo
          go_wp2_with fail
          refine (refBalanced_any li ((n : Int) - 1 - li) w (by have := HLI.out; omega) (by have := HLI.out; have := HLO.out; have := HN.out; omega) (by have := HLI.out; have := HLO.out; have := HN.out; omega) (by have := HLI.out; have := HLO.out; have := HN.out; omega)).mono ?_
          rintro e w8 ⟨rfl, h8⟩
          have h9 := h8.symm
          clear h8
          subst h9
          cases hb : bal li ((n : Int) - 1 - li)
          · have hw5 : IntKind.i64.wrap (li + 1) = li + 1 := by have := HLI.out; have := HLO.out; have := HN.out; rw [IntKind.wrap_i64]; omega
            have HST : Hid (2 * (lo + 1) ≤ n - 1) := by
              show 2 * (lo + 1) ≤ n - 1
              have h3 := HLI.out; have h4 := HLO.out; have h5 := HN.out
              unfold bal at hb
              have h6 := of_decide_eq_false hb
              omega
            clear hb
            go_wp2_with fail
            exact ⟨⟨lo + 1, by have := HLI.out; congr 1; omega, HST.out, by first | rfl | trivial⟩, by have := HLI.out; have := HL2.out; simp [intOf]; omega⟩
          · have HBL : Hid (bal (lo : Int) ((n : Int) - 1 - (lo : Int)) = true) := by
              show bal (lo : Int) ((n : Int) - 1 - (lo : Int)) = true
              rw [HLI.out]; exact hb
            rw [← HLI.out] at hw2 hlt1 ⊢
            clear hb hw2 hlt1 HLI HL2
            obtain ⟨li, hli⟩ : ∃ Y : Int, (lo : Int) = Y := ⟨_, rfl⟩
            rw [hli] at HBL ⊢
            try (rw [hli] at hlt1 hlt0)
            have HLI := Lib.hid hli
            have hh1 : 2 * li ≤ (n : Int) - 1 := by have := HLO.out; have := HN.out; omega
            have hl0 : 0 ≤ li := by omega
            have hw2 : IntKind.i64.wrap ((n : Int) - 1 - li) = (n : Int) - 1 - li := by rw [IntKind.wrap_i64]; omega
            have hw3 : IntKind.i64.wrap ((n : Int) - 1 - li - li) = (n : Int) - 1 - li - li := by rw [IntKind.wrap_i64]; omega
            have hw4 : IntKind.i64.wrap ((n : Int) - 1 - li - li + 1) = (n : Int) - 1 - li - li + 1 := by rw [IntKind.wrap_i64]; omega
            have hw5 : IntKind.u64.wrap ((n : Int) - 1 - li - li + 1) = (n : Int) - 1 - li - li + 1 := by rw [IntKind.wrap_u64]; omega
            have hlt2 : decide ((n : Int) - 1 - li < li) = false := decide_eq_false (by omega)
            have hlt3 : ¬ (n : Int) - 1 - li < li := by omega
            have hw1 := HW1.out
            have k1 := Int.emod_nonneg tilt (b := (n : Int) - 1 - li - li + 1) (by omega)
            have k2 := Int.emod_lt_of_pos tilt (b := (n : Int) - 1 - li - li + 1) (by omega)
            have hmt : tilt.tmod ((n : Int) - 1 - li - li + 1) = tilt % ((n : Int) - 1 - li - li + 1) := Int.tmod_eq_emod_of_nonneg HT.out.1
            have hdne : ¬ (n : Int) - 1 - li - li + 1 = 0 := by omega
            have hd0 : (0 : Int) < (n : Int) - 1 - li - li + 1 := by omega
            generalize hD : (n : Int) - 1 - li - li + 1 = D at hw4 hw5 k1 k2 hmt hdne hd0
            have HD := Lib.hid hD
            have HK2 := Lib.hid (And.intro k1 k2)
            have HMT := Lib.hid hmt
            have hw6 : IntKind.i64.wrap (tilt.tmod D) = tilt % D := by rw [hmt, IntKind.wrap_i64]; omega
            have hw7 : IntKind.i64.wrap (li + tilt % D) = li + tilt % D := by rw [IntKind.wrap_i64]; omega
            have hw8 : IntKind.i64.wrap (tilt % D) = tilt % D := by rw [IntKind.wrap_i64]; omega
            have hw9 : IntKind.u64.wrap (tilt % D) = tilt % D := by rw [IntKind.wrap_u64]; omega
            have hh2 : li < 4294967296 := by omega
            clear hli hh1 k1 k2 hD
            go_wp2_with fail
            go_ret
            refine ⟨⟨(li + tilt % D).toNat, ?_, ?_, ?_⟩, rfl⟩
            · have h3 := HK2.out
              rw [show (((li + tilt % D).toNat : Nat) : Int) = li + tilt % D by omega]
              refine congrArg (fun x => Ending.returned (Value.int .i64 x)) ?_
              have h4 := HD.out; have h5 := HLI.out; have h6 := HN.out
              rw [HD.out, HMT.out]
              unfold wrap64
              omega
            · have h3 := HK2.out; have h4 := HD.out; have h5 := HLI.out; omega
            · have h3 := HK2.out; have h4 := HD.out; have h5 := HLI.out; have h6 := HN.out
              rw [show (((li + tilt % D).toNat : Nat) : Int) = li + tilt % D by omega]
              exact bal_between HBL.out (by omega) (by omega) (by omega)
        · have HBL : Hid (bal (lo : Int) ((n : Int) - 1 - (lo : Int)) = true) := by
            show bal (lo : Int) ((n : Int) - 1 - (lo : Int)) = true
            have h3 := HN.out
            exact decide_eq_true (by omega)
          have hlt1 : decide ((lo : Int) < (n : Int) - 1) = false := decide_eq_false (by omega)
          have hlt0 : ¬ (lo : Int) < (n : Int) - 1 := by omega
          clear hl hlo
          obtain ⟨li, hli⟩ : ∃ Y : Int, (lo : Int) = Y := ⟨_, rfl⟩
          rw [hli] at HBL ⊢
          try (rw [hli] at hlt1 hlt0)
          have HLI := Lib.hid hli
          have hh1 : 2 * li ≤ (n : Int) - 1 := by have := HLO.out; have := HN.out; omega
          have hl0 : 0 ≤ li := by omega
          have hw2 : IntKind.i64.wrap ((n : Int) - 1 - li) = (n : Int) - 1 - li := by rw [IntKind.wrap_i64]; omega
          have hw3 : IntKind.i64.wrap ((n : Int) - 1 - li - li) = (n : Int) - 1 - li - li := by rw [IntKind.wrap_i64]; omega
          have hw4 : IntKind.i64.wrap ((n : Int) - 1 - li - li + 1) = (n : Int) - 1 - li - li + 1 := by rw [IntKind.wrap_i64]; omega
          have hw5 : IntKind.u64.wrap ((n : Int) - 1 - li - li + 1) = (n : Int) - 1 - li - li + 1 := by rw [IntKind.wrap_u64]; omega
          have hlt2 : decide ((n : Int) - 1 - li < li) = false := decide_eq_false (by omega)
          have hlt3 : ¬ (n : Int) - 1 - li < li := by omega
          have hw1 := HW1.out
          have k1 := Int.emod_nonneg tilt (b := (n : Int) - 1 - li - li + 1) (by omega)
          have k2 := Int.emod_lt_of_pos tilt (b := (n : Int) - 1 - li - li + 1) (by omega)
          have hmt : tilt.tmod ((n : Int) - 1 - li - li + 1) = tilt % ((n : Int) - 1 - li - li + 1) := Int.tmod_eq_emod_of_nonneg HT.out.1
          have hdne : ¬ (n : Int) - 1 - li - li + 1 = 0 := by omega
          have hd0 : (0 : Int) < (n : Int) - 1 - li - li + 1 := by omega
          generalize hD : (n : Int) - 1 - li - li + 1 = D at hw4 hw5 k1 k2 hmt hdne hd0
          have HD := Lib.hid hD
          have HK2 := Lib.hid (And.intro k1 k2)
          have HMT := Lib.hid hmt
          have hw6 : IntKind.i64.wrap (tilt.tmod D) = tilt % D := by rw [hmt, IntKind.wrap_i64]; omega
          have hw7 : IntKind.i64.wrap (li + tilt % D) = li + tilt % D := by rw [IntKind.wrap_i64]; omega
          have hw8 : IntKind.i64.wrap (tilt % D) = tilt % D := by rw [IntKind.wrap_i64]; omega
          have hw9 : IntKind.u64.wrap (tilt % D) = tilt % D := by rw [IntKind.wrap_u64]; omega
          have hh2 : li < 4294967296 := by omega
          clear hli hh1 k1 k2 hD
          go_wp2_with fail
          go_ret
          refine ⟨⟨(li + tilt % D).toNat, ?_, ?_, ?_⟩, rfl⟩
          · have h3 := HK2.out
            rw [show (((li + tilt % D).toNat : Nat) : Int) = li + tilt % D by omega]
            refine congrArg (fun x => Ending.returned (Value.int .i64 x)) ?_
            have h4 := HD.out; have h5 := HLI.out; have h6 := HN.out
            rw [HD.out, HMT.out]
            unfold wrap64
            omega
          · have h3 := HK2.out; have h4 := HD.out; have h5 := HLI.out; omega
          · have h3 := HK2.out; have h4 := HD.out; have h5 := HLI.out; have h6 := HN.out
            rw [show (((li + tilt % D).toNat : Nat) : Int) = li + tilt % D by omega]
            exact bal_between HBL.out (by omega) (by omega) (by omega)
    · obtain ⟨li, hli⟩ : ∃ Y : Int, (lo : Int) = Y := ⟨_, rfl⟩
      have HLI := Lib.hid hli
      rw [hli]
      have hw2 : IntKind.i64.wrap (li - 1) = li - 1 := by have := HN.out; rw [IntKind.wrap_i64]; omega
      have hw3 : IntKind.i64.wrap ((n : Int) - li) = (n : Int) - li := by have := HN.out; rw [IntKind.wrap_i64]; omega
      have hlt1 : decide ((0 : Int) < li) = true := decide_eq_true (by omega)
      have HL0 : Hid (lo ≠ 0) := h0
      clear hli hlo h0
      go_wp2_with fail
      refine (refBalanced_any (li - 1) ((n : Int) - li) w (by have := HLI.out; omega) (by have := HLI.out; have := HLO.out; have := HN.out; omega) (by have := HLI.out; have := HLO.out; have := HN.out; omega) (by have := HLI.out; have := HLO.out; have := HN.out; omega)).mono ?_
      rintro e w8 ⟨rfl, h8⟩
      have h9 := h8.symm
      clear h8
      subst h9
      cases hb : bal (li - 1) ((n : Int) - li)
      · clear hb hw2 hw3 hlt1
        rw [← HLI.out]
        clear HLI
        go_wp2_with fail
        go_loopw [5] (fun x wr => ∃ lo : Nat, x = .int .i64 (lo : Int) ∧ 2 * lo ≤ n - 1 ∧ w = wr) (fun x _ => n - (intOf x).toNat)
        case atStart => exact ⟨lo, rfl, HLO.out, rfl⟩
        case round =>
          clear HLO
          obtain ⟨lo, rfl, hlo, rfl⟩ := hrel
          have HLO := Lib.hid hlo
          have hw1 := HW1.out
          by_cases hl : lo < n - 1
          · obtain ⟨li, hli⟩ : ∃ Y : Int, (lo : Int) = Y := ⟨_, rfl⟩
            have HLI := Lib.hid hli
            rw [hli]
            have hw2 : IntKind.i64.wrap ((n : Int) - 1 - li) = (n : Int) - 1 - li := by rw [IntKind.wrap_i64]; omega
            have hlt1 : decide (li < (n : Int) - 1) = true := decide_eq_true (by omega)
            have HL2 : Hid (lo < n - 1) := hl
            clear hli hl hlo
            go_wp2_with fail
            refine (refBalanced_any li ((n : Int) - 1 - li) w (by have := HLI.out; omega) (by have := HLI.out; have := HLO.out; have := HN.out; omega) (by have := HLI.out; have := HLO.out; have := HN.out; omega) (by have := HLI.out; have := HLO.out; have := HN.out; omega)).mono ?_
            rintro e w8 ⟨rfl, h8⟩
            have h9 := h8.symm
            clear h8
            subst h9
            cases hb : bal li ((n : Int) - 1 - li)
            · have hw5 : IntKind.i64.wrap (li + 1) = li + 1 := by have := HLI.out; have := HLO.out; have := HN.out; rw [IntKind.wrap_i64]; omega
              have HST : Hid (2 * (lo + 1) ≤ n - 1) := by
                show 2 * (lo + 1) ≤ n - 1
                have h3 := HLI.out; have h4 := HLO.out; have h5 := HN.out
                unfold bal at hb
                have h6 := of_decide_eq_false hb
                omega
              clear hb
              go_wp2_with fail
              exact ⟨⟨lo + 1, by have := HLI.out; congr 1; omega, HST.out, by first | rfl | trivial⟩, by have := HLI.out; have := HL2.out; simp [intOf]; omega⟩
            · have HBL : Hid (bal (lo : Int) ((n : Int) - 1 - (lo : Int)) = true) := by
                show bal (lo : Int) ((n : Int) - 1 - (lo : Int)) = true
                rw [HLI.out]; exact hb
              rw [← HLI.out] at hw2 hlt1 ⊢
              clear hb hw2 hlt1 HLI HL2
              obtain ⟨li, hli⟩ : ∃ Y : Int, (lo : Int) = Y := ⟨_, rfl⟩
              rw [hli] at HBL ⊢
              try (rw [hli] at hlt1 hlt0)
              have HLI := Lib.hid hli
              have hh1 : 2 * li ≤ (n : Int) - 1 := by have := HLO.out; have := HN.out; omega
              have hl0 : 0 ≤ li := by omega
              have hw2 : IntKind.i64.wrap ((n : Int) - 1 - li) = (n : Int) - 1 - li := by rw [IntKind.wrap_i64]; omega
              have hw3 : IntKind.i64.wrap ((n : Int) - 1 - li - li) = (n : Int) - 1 - li - li := by rw [IntKind.wrap_i64]; omega
              have hw4 : IntKind.i64.wrap ((n : Int) - 1 - li - li + 1) = (n : Int) - 1 - li - li + 1 := by rw [IntKind.wrap_i64]; omega
              have hw5 : IntKind.u64.wrap ((n : Int) - 1 - li - li + 1) = (n : Int) - 1 - li - li + 1 := by rw [IntKind.wrap_u64]; omega
              have hlt2 : decide ((n : Int) - 1 - li < li) = false := decide_eq_false (by omega)
              have hlt3 : ¬ (n : Int) - 1 - li < li := by omega
              have hw1 := HW1.out
              have k1 := Int.emod_nonneg tilt (b := (n : Int) - 1 - li - li + 1) (by omega)
              have k2 := Int.emod_lt_of_pos tilt (b := (n : Int) - 1 - li - li + 1) (by omega)
              have hmt : tilt.tmod ((n : Int) - 1 - li - li + 1) = tilt % ((n : Int) - 1 - li - li + 1) := Int.tmod_eq_emod_of_nonneg HT.out.1
              have hdne : ¬ (n : Int) - 1 - li - li + 1 = 0 := by omega
              have hd0 : (0 : Int) < (n : Int) - 1 - li - li + 1 := by omega
              generalize hD : (n : Int) - 1 - li - li + 1 = D at hw4 hw5 k1 k2 hmt hdne hd0
              have HD := Lib.hid hD
              have HK2 := Lib.hid (And.intro k1 k2)
              have HMT := Lib.hid hmt
              have hw6 : IntKind.i64.wrap (tilt.tmod D) = tilt % D := by rw [hmt, IntKind.wrap_i64]; omega
              have hw7 : IntKind.i64.wrap (li + tilt % D) = li + tilt % D := by rw [IntKind.wrap_i64]; omega
              have hw8 : IntKind.i64.wrap (tilt % D) = tilt % D := by rw [IntKind.wrap_i64]; omega
              have hw9 : IntKind.u64.wrap (tilt % D) = tilt % D := by rw [IntKind.wrap_u64]; omega
              have hh2 : li < 4294967296 := by omega
              clear hli hh1 k1 k2 hD
              go_wp2_with fail
              go_ret
              refine ⟨⟨(li + tilt % D).toNat, ?_, ?_, ?_⟩, rfl⟩
              · have h3 := HK2.out
                rw [show (((li + tilt % D).toNat : Nat) : Int) = li + tilt % D by omega]
                refine congrArg (fun x => Ending.returned (Value.int .i64 x)) ?_
                have h4 := HD.out; have h5 := HLI.out; have h6 := HN.out
                rw [HD.out, HMT.out]
                unfold wrap64
                omega
              · have h3 := HK2.out; have h4 := HD.out; have h5 := HLI.out; omega
              · have h3 := HK2.out; have h4 := HD.out; have h5 := HLI.out; have h6 := HN.out
                rw [show (((li + tilt % D).toNat : Nat) : Int) = li + tilt % D by omega]
                exact bal_between HBL.out (by omega) (by omega) (by omega)
          · have HBL : Hid (bal (lo : Int) ((n : Int) - 1 - (lo : Int)) = true) := by
              show bal (lo : Int) ((n : Int) - 1 - (lo : Int)) = true
              have h3 := HN.out
              exact decide_eq_true (by omega)
            have hlt1 : decide ((lo : Int) < (n : Int) - 1) = false := decide_eq_false (by omega)
            have hlt0 : ¬ (lo : Int) < (n : Int) - 1 := by omega
            clear hl hlo
            obtain ⟨li, hli⟩ : ∃ Y : Int, (lo : Int) = Y := ⟨_, rfl⟩
            rw [hli] at HBL ⊢
            try (rw [hli] at hlt1 hlt0)
            have HLI := Lib.hid hli
            have hh1 : 2 * li ≤ (n : Int) - 1 := by have := HLO.out; have := HN.out; omega
            have hl0 : 0 ≤ li := by omega
            have hw2 : IntKind.i64.wrap ((n : Int) - 1 - li) = (n : Int) - 1 - li := by rw [IntKind.wrap_i64]; omega
            have hw3 : IntKind.i64.wrap ((n : Int) - 1 - li - li) = (n : Int) - 1 - li - li := by rw [IntKind.wrap_i64]; omega
            have hw4 : IntKind.i64.wrap ((n : Int) - 1 - li - li + 1) = (n : Int) - 1 - li - li + 1 := by rw [IntKind.wrap_i64]; omega
            have hw5 : IntKind.u64.wrap ((n : Int) - 1 - li - li + 1) = (n : Int) - 1 - li - li + 1 := by rw [IntKind.wrap_u64]; omega
            have hlt2 : decide ((n : Int) - 1 - li < li) = false := decide_eq_false (by omega)
            have hlt3 : ¬ (n : Int) - 1 - li < li := by omega
            have hw1 := HW1.out
            have k1 := Int.emod_nonneg tilt (b := (n : Int) - 1 - li - li + 1) (by omega)
            have k2 := Int.emod_lt_of_pos tilt (b := (n : Int) - 1 - li - li + 1) (by omega)
            have hmt : tilt.tmod ((n : Int) - 1 - li - li + 1) = tilt % ((n : Int) - 1 - li - li + 1) := Int.tmod_eq_emod_of_nonneg HT.out.1
            have hdne : ¬ (n : Int) - 1 - li - li + 1 = 0 := by omega
            have hd0 : (0 : Int) < (n : Int) - 1 - li - li + 1 := by omega
            generalize hD : (n : Int) - 1 - li - li + 1 = D at hw4 hw5 k1 k2 hmt hdne hd0
            have HD := Lib.hid hD
            have HK2 := Lib.hid (And.intro k1 k2)
            have HMT := Lib.hid hmt
            have hw6 : IntKind.i64.wrap (tilt.tmod D) = tilt % D := by rw [hmt, IntKind.wrap_i64]; omega
            have hw7 : IntKind.i64.wrap (li + tilt % D) = li + tilt % D := by rw [IntKind.wrap_i64]; omega
            have hw8 : IntKind.i64.wrap (tilt % D) = tilt % D := by rw [IntKind.wrap_i64]; omega
            have hw9 : IntKind.u64.wrap (tilt % D) = tilt % D := by rw [IntKind.wrap_u64]; omega
            have hh2 : li < 4294967296 := by omega
            clear hli hh1 k1 k2 hD
            go_wp2_with fail
            go_ret
            refine ⟨⟨(li + tilt % D).toNat, ?_, ?_, ?_⟩, rfl⟩
            · have h3 := HK2.out
              rw [show (((li + tilt % D).toNat : Nat) : Int) = li + tilt % D by omega]
              refine congrArg (fun x => Ending.returned (Value.int .i64 x)) ?_
              have h4 := HD.out; have h5 := HLI.out; have h6 := HN.out
              rw [HD.out, HMT.out]
              unfold wrap64
              omega
            · have h3 := HK2.out; have h4 := HD.out; have h5 := HLI.out; omega
            · have h3 := HK2.out; have h4 := HD.out; have h5 := HLI.out; have h6 := HN.out
              rw [show (((li + tilt % D).toNat : Nat) : Int) = li + tilt % D by omega]
              exact bal_between HBL.out (by omega) (by omega) (by omega)
      · clear hb
        go_wp2_with fail
        exact ⟨⟨lo - 1, by have := HLI.out; have := HL0.out; congr 1; omega, by have := HLO.out; omega, by first | rfl | trivial⟩, by have := HLI.out; have := HL0.out; simp [intOf]; omega⟩
section
variable {F F' F'' G : Nat → Prop} {w w' w'' : World} {B : Nat}
theorem EnsAt.alters {a : Option Addr} {l : List En} (h : EnsAt w a l) (ha : Alters F F' w w') (hF : ∀ b off, a = some ⟨b, off, none⟩ → ¬ F b) : EnsAt w' a l := by
  refine ⟨fun j e he => ?_, h.wf⟩
  obtain ⟨b, off, hab, hlt, h1, h2⟩ := h.cell j e he
  have hb := ha.block b hlt (hF b off hab)
  exact ⟨b, off, hab, Nat.lt_of_lt_of_le hlt ha.size, by rw [← h1]; exact World.cell?_of_block (a := ⟨b, off + j * 2, none⟩) hb, by rw [← h2]; exact World.cell?_of_block (a := ⟨b, off + j * 2 + 1, none⟩) hb⟩
theorem EnsAt.two {b off k : Nat} {key val : Int} {l : List En} (h : EnsAt w (some ⟨b, off, none⟩) l) (he : l[k]? = some ⟨key, val⟩) : w.cell? ⟨b, off + k * 2, none⟩ = some (.int .i64 key) ∧ w.cell? ⟨b, off + k * 2 + 1, none⟩ = some (.int .i64 val) := by
  obtain ⟨b', off', hab, hlt, h1, h2⟩ := h.cell k ⟨key, val⟩ he
  simp at hab
  obtain ⟨rfl, rfl⟩ := hab
  exact ⟨h1, h2⟩
theorem EnsAt.take {a : Option Addr} {l : List En} (h : EnsAt w a l) (p : Nat) : EnsAt w a (l.take p) :=
  ⟨fun j e he => h.cell j e (by rw [List.getElem?_take] at he; split at he; exact he; cases he), fun e he => h.wf e (List.mem_of_mem_take he)⟩
theorem EnsAt.drop {b off : Nat} {l : List En} (h : EnsAt w (some ⟨b, off, none⟩) l) (p : Nat) : EnsAt w (some ⟨b, off + p * 2, none⟩) (l.drop p) :=
  ⟨fun j e he => by
    rw [List.getElem?_drop] at he
    obtain ⟨b', off', hab, hlt, h1, h2⟩ := h.cell (p + j) e he
    simp at hab
    obtain ⟨rfl, rfl⟩ := hab
    refine ⟨_, _, rfl, hlt, ?_, ?_⟩
    · rw [show off + p * 2 + j * 2 = off + (p + j) * 2 by omega]; exact h1
    · rw [show off + p * 2 + j * 2 + 1 = off + (p + j) * 2 + 1 by omega]; exact h2, fun e he => h.wf e (List.mem_of_mem_drop he)⟩
end
def PlantRes (I : AImpl) (A : Ar) (rd : Int) (F : Nat → Prop) (held : Nat → Nat) (l : List En) (p : Value) (w : World) (e : Ending) (w' : World) : Prop :=
  ∃ (A' : Ar) (i : Nat) (t : Tr) (F' : Nat → Prop), Planted A held l A' i t ∧ e = .returned (.tuple #[.int .u32 (i : Int), .bool true]) ∧ Alters F F' w w' ∧ I.Is w' p A' rd F'
def PlantSpec (I : AImpl) (n : Nat) : Prop := ∀ (l : List En) (a : Option Addr) (c : Nat) (tilt : Int) (p : Value) (A : Ar) (rd : Int) (F : Nat → Prop) (held : Nat → Nat) (w : World),
  l.length = n → I.Is w p A rd F → A.Inv [] held → A.Agg → (∀ j, held j + 2 * n ≤ 1048576) → n ≤ A.σ.free.length → EnsAt w a l → (n ≠ 0 → ∀ b off, a = some ⟨b, off, none⟩ → ¬ F b) → n ≤ c → c ≤ maxLen → 0 ≤ tilt → tilt < 18446744073709551616 →
  Calls Tryz.prog 36 #[p, .slice a n c, .int .u64 tilt] w (PlantRes I A rd F held l p w)
theorem u64_in (x : Int) : 0 ≤ IntKind.u64.wrap x ∧ IntKind.u64.wrap x < 18446744073709551616 := by rw [IntKind.wrap_u64]; omega
theorem split_at {l : List En} {k : Nat} {en : En} (h : l[k]? = some en) : l = l.take k ++ en :: l.drop (k + 1) := by
  obtain ⟨hk, he⟩ := List.getElem?_eq_some_iff.1 h
  rw [← he, ← List.drop_eq_getElem_cons hk, List.take_append_drop]
theorem make_call (I : AImpl) {p : Value} {A : Ar} {rd : Int} {F : Nat → Prop} {key val : Int} {il ir i : Nat} {fr : List Nat} {held : Nat → Nat} {w : World} (hI : I.Is w p A rd F) (hv : A.Inv [] held) (ha : A.Agg) (hh : ∀ j, held j ≤ 1048576) (hk : i64R key ∧ i64R val) (hl : A.Idx il) (hr : A.Idx ir) (hs : (A.node key val il ir).size ≤ 2147483647) (hf : A.σ.free = i :: fr) :
    Calls Tryz.prog 65 #[p, .int .i64 key, .int .i64 val, .int .u32 (il : Int), .int .u32 (ir : Int)] w fun e w' => e = .returned (.tuple #[.int .u32 (i : Int), .int .i64 0]) ∧ ∃ F', Alters F F' w w' ∧ I.Is w' p (A.made i fr (A.node key val il ir)) rd F' := by
  have h4 : ∀ x, A.Idx x → x < 4294967296 := fun x hx => by
    rcases hx with h | h
    · omega
    · have := hv.ok.on x h; have := hv.ok.cap2; omega
  refine (I.make p A rd F key val il ir held w hI hv ha hh hk.1.1 hk.1.2 hk.2.1 hk.2.2 (h4 il hl) (h4 ir hr)).mono ?_
  rintro e w1 ⟨F', hal, _, _, h6⟩
  obtain ⟨rfl, h7⟩ := h6 ⟨hl, hr, hs⟩ i fr hf
  exact ⟨rfl, F', hal, h7⟩
theorem release_call (I : AImpl) {p : Value} {A : Ar} {rd : Int} {F : Nat → Prop} {i : Nat} {held : Nat → Nat} {w : World} (hI : I.Is w p A rd F) (hok : A.σ.Ok) (hv : A.Idx i → A.Inv [i] held) (hi : A.Idx i) :
    Calls Tryz.prog 14 #[p, .int .u32 (i : Int)] w fun e w' => (∃ m : Nat, e = .returned (.tuple #[.int .i64 (m : Int), .int .i64 0])) ∧ ∃ F', Alters F F' w w' ∧ I.Is w' p (A.gone i) rd F' := by
  have h4 : i < 4294967296 := by
    rcases hi with h | h
    · omega
    · have := hok.on i h; have := hok.cap2; omega
  refine (I.release p A rd F i held w hI h4 hv).mono ?_
  rintro e w1 ⟨F', hal, _, h6⟩
  obtain ⟨rfl, h7⟩ := h6 hi
  exact ⟨⟨_, rfl⟩, F', hal, h7⟩
set_option maxHeartbeats 8000000 in
set_option maxRecDepth 100000 in
theorem plant_step (I : AImpl) (n : Nat) (ih : ∀ m, m < n → PlantSpec I m) : PlantSpec I n := by
  intro l a c tilt p A rd F held w hn hI hInv hAg hh hf hE hd hc hcm ht0 ht1
  obtain ⟨pa, rfl⟩ := I.ptr hI
  have HIH := Lib.hid ih
  have HI := Lib.hid hI
  have HINV := Lib.hid hInv
  have HAG := Lib.hid hAg
  have HH := Lib.hid hh
  have HF := Lib.hid hf
  have HE := Lib.hid hE
  have HD := Lib.hid hd
  have HN := Lib.hid hn
  have hcap := hInv.ok.len
  have hcap2 := hInv.ok.cap2
  have hn6 : n ≤ 65536 := by omega
  have HC : Hid (n ≤ c ∧ c ≤ maxLen ∧ n ≤ 65536) := ⟨hc, hcm, hn6⟩
  have HT : Hid (0 ≤ tilt ∧ tilt < 18446744073709551616) := ⟨ht0, ht1⟩
  clear ih hI hInv hAg hh hf hE hd hn hcap hcap2
  by_cases h0 : n = 0
  · subst h0
    have hl : l = [] := List.eq_nil_of_length_eq_zero HN.out
    have HP : Hid (PlantRes I A rd F held l (.pointer (some pa)) w (.returned (.tuple #[.int .u32 ((0 : Nat) : Int), .bool true])) w) := ⟨A, 0, .nil, F, by rw [hl]; exact .nil HINV.out HAG.out, rfl, .refl w F, HI.out⟩
    clear hl HIH hc hcm hn6 ht0 ht1
    go_enter Tryz.func36, Tryz.ntmps36
    go_wp2_with fail
    go_ret2
    exact HP.out
  · have hne : ((n : Int) == 0) = false := by simp; exact h0
    have hni : (n : Int) ≤ 65536 := by omega
    have hn1 : (1 : Int) ≤ (n : Int) := by omega
    have hn0 : 1 ≤ n := by omega
    have HN0 := Lib.hid hn0
    have hci : (n : Int) ≤ (c : Int) := by omega
    have hcx : (c : Int) ≤ 9223372036854775807 := by unfold maxLen at hcm; omega
    obtain ⟨b, off, rfl⟩ : ∃ b off, a = some ⟨b, off, none⟩ := by
      obtain ⟨b, off, h1, _⟩ := HE.out.cell 0 (l[0]'(by have := HN.out; omega)) (List.getElem?_eq_getElem _)
      exact ⟨b, off, h1⟩
    have hFb := HD.out h0 b off rfl
    have HFB := Lib.hid hFb
    have hwc : IntKind.i64.wrap (n : Int) = (n : Int) := by rw [IntKind.wrap_i64]; omega
    clear h0 hn0 hc hcm hn6 hFb HD hwc
    go_enter Tryz.func36, Tryz.ntmps36
    go_wp2_with fail
    refine (pivot_any n tilt w HN0.out (by have := HC.out; omega) HT.out.1 HT.out.2).mono ?_
    rintro e w1 ⟨⟨k, rfl, hk, hbal⟩, rfl⟩
    have HK := Lib.hid hk
    have HBAL := Lib.hid hbal
    have hki : (k : Int) < (n : Int) := by omega
    have hk0 : (0 : Int) ≤ (k : Int) := by omega
    have hkw : IntKind.i64.wrap ((k : Int) + 1) = ((k + 1 : Nat) : Int) := by rw [IntKind.wrap_i64]; omega
    have hk1 : ((k + 1 : Nat) : Int) ≤ (n : Int) := by omega
    have hkt : (((k + 1 : Nat) : Int)).toNat = k + 1 := Int.toNat_natCast _
    have hk10 : (0 : Int) ≤ (k : Int) + 1 := by omega
    clear hk hbal
    go_wp2_with fail
    have hlk : (l.take k).length = k := by rw [List.length_take]; have := HN.out; have := HK.out; omega
    refine (HIH.out k HK.out (l.take k) _ c _ _ A rd F held w hlk HI.out HINV.out HAG.out (fun j => by have := HH.out j; have := HK.out; omega) (by have := HF.out; have := HK.out; omega) (HE.out.take k) (fun _ b' off' h => by simp at h; rw [← h.1]; exact HFB.out) (by have := HC.out; have := HK.out; omega) HC.out.2.1 (u64_in _).1 (u64_in _).2).mono ?_
    rintro e w2 ⟨A1, il, tl, F1, hP1, rfl, hal1, hI1⟩
    have HP1 := Lib.hid hP1
    have HAL1 := Lib.hid hal1
    have HI1 := Lib.hid hI1
    clear hP1 hal1 hI1 hlk ht0 ht1
    have hE2 := HE.out.alters HAL1.out (fun b' off' h => by simp at h; rw [← h.1]; exact HFB.out)
    have HE2 := Lib.hid hE2
    have hFB1 : ∀ k, k < w.heap.size → k = b → k < w2.heap.size ∧ ¬ F1 k := fun k hk e => HAL1.out.apart (G := fun j => j = b ∧ j < w.heap.size) (fun j hj => ⟨hj.2, by rw [hj.1]; exact HFB.out⟩) k ⟨e, hk⟩
    have hlb : b < w.heap.size := by
      obtain ⟨b', off', h1, h2, _⟩ := HE.out.cell 0 (l[0]'(by have := HN.out; have := HN0.out; omega)) (List.getElem?_eq_getElem _)
      simp at h1
      rw [h1.1]; exact h2
    have HFB1 := Lib.hid (hFB1 b hlb rfl)
    have hld : (l.drop (k + 1)).length = n - (k + 1) := by rw [List.length_drop]; have := HN.out; omega
    have HLD := Lib.hid hld
    clear hE2 hFB1 hlb hld
    go_wp2_with fail
    all_goals (
      refine (HIH.out (n - (k + 1)) (by have := HN0.out; omega) (l.drop (k + 1)) _ _ _ _ A1 rd F1 (pls held il) w2 HLD.out HI1.out HP1.out.inv HP1.out.agg (fun j => by rw [pls_at]; have := HH.out j; have := HK.out; split <;> omega) (by have h1 := HP1.out.free; have h2 := HF.out; have h3 := HK.out; rw [List.length_take, HN.out] at h1; omega) ?_ (fun _ b' off' h => by cases h; exact HFB1.out.2) (by have := HC.out; omega) (by have := HC.out; unfold maxLen at *; omega) (u64_in _).1 (u64_in _).2).mono ?_
      first
        | exact HE2.out.drop (k + 1)
        | (have e : l.drop (k + 1) = [] := List.eq_nil_of_length_eq_zero (by have := HC.out; have := HLD.out; omega); rw [e]; exact EnsAt.nil _ _)
      rintro e w3 ⟨A2, ir, tr, F2, hP2, rfl, hal2, hI2⟩
      have HP2 := Lib.hid hP2
      have HAL2 := Lib.hid hal2
      have HI2 := Lib.hid hI2
      clear hP2 hal2 hI2
      obtain ⟨fr0, hfr0⟩ : ∃ x, A2.σ.free = x := ⟨_, rfl⟩
      cases fr0 with
      | nil => exact absurd (congrArg List.length hfr0) (by have h1 := HP2.out.free; have h2 := HP1.out.free; have h3 := HF.out; have h4 := HLD.out; have h5 := HK.out; rw [List.length_take, HN.out] at h2; simp only [List.length_nil]; omega)
      | cons i fr =>
        have HFR := Lib.hid hfr0
        clear hfr0
        have hE3 := HE2.out.alters HAL2.out (fun b' off' h => by simp at h; rw [← h.1]; exact HFB1.out.2)
        have hkl : k < l.length := by have := HN.out; have := HK.out; omega
        obtain ⟨en, hen⟩ : ∃ en, l[k]? = some en := ⟨_, List.getElem?_eq_getElem hkl⟩
        have hspl := split_at hen
        obtain ⟨b', off', hbb, hbl, c0, c1⟩ := hE3.cell k en hen
        simp only [Option.some.injEq, Addr.mk.injEq, and_true] at hbb
        obtain ⟨rfl, rfl⟩ := hbb
        have hwf := hE3.wf en (List.mem_of_getElem? hen)
        have HE3 := Lib.hid hE3
        have HKL := Lib.hid hkl
        have HSPL := Lib.hid hspl
        have HWF := Lib.hid hwf
        have HEN := Lib.hid hen
        have hF2b := (HAL2.out.apart (G := fun j => j = b) (fun j hj => by rw [hj]; exact HFB1.out) b rfl)
        have HF2B := Lib.hid hF2b
        have hlt := HLD.out
        have hb2 : bal ((l.take k).length : Int) ((l.drop (k + 1)).length : Int) = true := by
          rw [HLD.out, List.length_take, HN.out, Nat.min_eq_left (Nat.le_of_lt HK.out)]
          have := HBAL.out
          rw [show ((n - (k + 1) : Nat) : Int) = (n : Int) - 1 - (k : Int) by have := HK.out; omega]
          exact this
        have hnode := Planted.node (e := en) HP1.out HP2.out HFR.out rfl hb2 (by rw [HLD.out, List.length_take, HN.out]; have := HC.out; omega)
        have HNODE := Lib.hid hnode
        have hsl := HP1.out.sub.kept HP2.out.kept
        have hov := over_ok rfl HP2.out.inv HP2.out.agg HFR.out hsl.idx HP2.out.sub.idx hnode.2
        have HOV := Lib.hid hov
        have HIL : Hid (A2.Idx il ∧ A2.Idx ir) := ⟨hsl.idx, HP2.out.sub.idx⟩
        clear hE3 hkl hen hspl hwf hF2b hlt hb2 hnode hsl hov
        obtain ⟨key, val⟩ := en
        have hH : ∀ j, pls (pls held il) ir j ≤ 1048576 := fun j => by rw [pls_at, pls_at]; have := HH.out j; have := HN0.out; split <;> split <;> omega
        have HHH := Lib.hid hH
        clear hH
        go_upto_region 10 with fail
        go_cut [13, 14] (fun s13 s14 wx => s13 = .int .u32 (i : Int) ∧ s14 = .int .i64 0 ∧ ∃ F3, Alters F2 F3 w3 wx ∧ I.Is wx (.pointer (some pa)) (A2.made i fr (A2.node key val il ir)) rd F3)
        case first =>
          go_region_held3 (fun w' => w'.cell? ⟨b, off + k * 2, none⟩ = some (.int .i64 key) ∧ w'.cell? ⟨b, off + k * 2 + 1, none⟩ = some (.int .i64 val)) (go_keep) ((go_at_call 65; refine (make_call I (I.below HI2.out (Below.refl _ _).drew) HP2.out.inv HP2.out.agg HHH.out HWF.out HIL.out.1 HIL.out.2 HNODE.out.2 HFR.out).mono ?_; rintro e wx ⟨rfl, F3, hal3, hI3⟩; have t1x := (EnsAt.alters (HE3.out.below (Below.refl _ _).drew) hal3 (fun b' off' h => by simp at h; rw [← h.1]; exact HF2B.out.2)).two HEN.out; obtain ⟨t1, t2⟩ := t1x))
          all_goals (go_wp2_with fail; go_meet; exact ⟨rfl, rfl, F3, (Alters.of_below (Below.refl _ _).drew).trans hal3, hI3⟩)
        case' rest =>
          rename World => w4
          obtain ⟨rfl, rfl, F3, hal3, hI3⟩ := hcut
          obtain ⟨o1, o2, o3, o4, o5, o6, o7, o8, o9, o10⟩ := HOV.out
          have HOK4 := Lib.hid (o7 o8).ok
          have HOK5 := Lib.hid (o9 o10).ok
          have HO7 := Lib.hid o7
          have HO8 := Lib.hid o8
          have HO9 := Lib.hid o9
          have HO10 := Lib.hid o10
          have HI3 := Lib.hid hI3
          have HA3 : Hid (Alters F F3 w w4) := (HAL1.out.trans HAL2.out).trans hal3
          have hi0 : ((i : Int) == 0) = false := by simp; exact o6
          have HI2 : Hid (((i : Int) != 0) = true) := by
            show ((i : Int) != 0) = true
            simp; exact o6
          clear o1 o2 o3 o4 o5 o6 o7 o8 o9 o10 hal3 hI3 c0 c1
          go_wp2_with fail
          refine (release_call I HI3.out HOK4.out HO7.out HO8.out).mono ?_
          rintro e w5 ⟨⟨m, rfl⟩, F4, hal4, hI4⟩
          have HI4 := Lib.hid hI4
          have HA4 : Hid (Alters F F4 w w5) := HA3.out.trans hal4
          clear hal4 hI4
          go_wp2_with fail
          refine (release_call I HI4.out HOK5.out HO9.out HO10.out).mono ?_
          rintro e w6 ⟨⟨m', rfl⟩, F5, hal5, hI5⟩
          have HR : Hid (PlantRes I A rd F held l (.pointer (some pa)) w (.returned (.tuple #[.int .u32 (i : Int), .bool ((i : Int) != 0)])) w6) := ⟨_, i, _, F5, (by rw [HSPL.out]; exact HNODE.out.1), (by rw [HI2.out]), HA4.out.trans hal5, hI5⟩
          clear hal5 hI5
          go_wp2_with fail
          go_ret2
          exact HR.out)
theorem plant_any (I : AImpl) (n : Nat) : PlantSpec I n := Nat.strongRecOn n fun n ih => plant_step I n ih
/-- keys ascending, plain -/
theorem up_asc : ∀ (l : List En) (s : Option Int), Up l → (∀ k, s = some k → ∀ y ∈ l, k < y.key) → Asc s (l.map (·.key))
  | [], s, h, hs => by cases s <;> trivial
  | x :: t, s, h, hs => by
    unfold Up at h
    rw [List.pairwise_cons] at h
    have ih := up_asc t (some x.key) h.2 (fun k hk y hy => by cases hk; exact h.1 y hy)
    cases s with
    | none => exact ih
    | some k => exact ⟨hs k rfl x (by simp), ih⟩
def Keeps (G : Nat → Prop) (w w' : World) : Prop := ∀ k, G k → w'.heap[k]? = w.heap[k]?
def InsRel (Z : Nat) (w2 : World) (l : List En) (e : En) (x d i : Value) (wr : World) : Prop :=
  ∃ (o : List En) (db : Bool) (j : Nat), i = .int .i64 (j : Int) ∧ d = .bool db ∧ j ≤ l.length ∧ ESt Z w2 o x wr ∧ o ++ insF e (l.drop j) db = insE l e
theorem below_new7e (w : World) (o : Obj) : Below w.heap.size w (w.alloc o) := (Below.refl _ _).alloc (Nat.le_refl _) _
theorem insF_cons (e x : En) (t : List En) (d : Bool) : insF e (x :: t) d = (if (!d && decide (e.key ≤ x.key)) = true then [e] else []) ++ (if x.key ≠ e.key then [x] else []) ++ insF e t (d || (!d && decide (e.key ≤ x.key))) := rfl
set_option maxHeartbeats 4000000 in
set_option maxRecDepth 100000 in
theorem insert_any {w : World} {a : Option Addr} {c : Nat} {l : List En} (e : En) (h : EnsAt w a l) (he : i64R e.key ∧ i64R e.val) (hl : l.length ≤ 1000000) :
    Calls Tryz.prog 41 #[.slice a l.length c, .agg #[.int .i64 e.key, .int .i64 e.val]] w (MadeEns w (insE l e)) := by
  obtain ⟨n, hn⟩ : ∃ n, l.length = n := ⟨_, rfl⟩
  have hb1 : Below w.heap.size w (w.alloc (Obj.cells #[Value.int .i64 e.key, Value.int .i64 e.val] 69)) := (Below.refl _ _).alloc (Nat.le_refl _) _
  have hbox := heap_alloc_new w (Obj.cells #[Value.int .i64 e.key, Value.int .i64 e.val] 69)
  have HB := Lib.hid hb1
  have HBOX := Lib.hid hbox
  have HE := Lib.hid (h.below hb1)
  have HN := Lib.hid hn
  have hni : (n : Int) ≤ 1000000 := by omega
  rw [hn]
  clear hb1 hbox hl hn h
  go_enter Tryz.func41, Tryz.ntmps41
  go_upto_region 1 with fail
  generalize w.alloc (Obj.cells #[Value.int .i64 e.key, Value.int .i64 e.val] 69) = w2 at HB HBOX HE ⊢
  obtain ⟨q, hq⟩ : ∃ q, w.heap.size = q := ⟨_, rfl⟩
  rw [hq] at HBOX HB ⊢
  have HQ := Lib.hid hq
  clear hq
  obtain ⟨Z, hZ⟩ : ∃ Z, w2.heap.size = Z := ⟨_, rfl⟩
  have HZ := Lib.hid hZ
  have hqz : q < Z := by rw [← hZ]; exact (Array.getElem?_eq_some_iff.1 HBOX.out).1
  have HQZ := Lib.hid hqz
  have HI0 : Hid (InsRel Z w2 l e (.slice none 0 0) (.bool false) (.int .i64 0) w2) := ⟨[], false, 0, rfl, rfl, Nat.zero_le _, ESt.start w2 hZ, rfl⟩
  clear hZ hqz
  go_wp2_with fail
  go_loopw [5, 6, 7] (fun x d i wr => InsRel Z w2 l e x d i wr) (fun _ _ i _ => n - (intOf i).toNat)
  case atStart => exact HI0.out
  case round =>
    clear HI0
    obtain ⟨o, db, j, rfl, rfl, hj, hst, hinv⟩ := hrel
    have HST := Lib.hid hst
    have HINV := Lib.hid hinv
    have hol : o.length ≤ n + 1 := by
      have h1 := congrArg List.length hinv
      have h2 := insE_len l e
      have h3 := HN.out
      rw [List.length_append] at h1
      omega
    have HOL := Lib.hid hol
    rw [HN.out] at hj
    obtain ⟨xa, xc, hx⟩ := hst.val
    subst hx
    have hbz : w2.heap.size ≤ wr.heap.size := hst.below.size
    have hbox2 := (hst.below.block q HQZ.out).trans HBOX.out
    have hkc : wr.cell? ⟨q, 0, none⟩ = some (.int .i64 e.key) := by rw [cell_of_row _ _ _ _ _ _ hbox2]; rfl
    have hvc : wr.cell? ⟨q, 1, none⟩ = some (.int .i64 e.val) := by rw [cell_of_row _ _ _ _ _ _ hbox2]; rfl
    have HBX := Lib.hid hbox2
    by_cases hlt : j < n
    · have hji : (j : Int) < (n : Int) := by omega
      have hj0 : (0 : Int) ≤ (j : Int) := by omega
      have HJ : Hid (j < n) := hlt
      have hjl : j < l.length := by rw [HN.out]; exact hlt
      have HEC := HE.out.cell j l[j] (List.getElem?_eq_getElem hjl)
      obtain ⟨b, off, rfl, hlb, d0, d1⟩ := HEC
      rw [HZ.out] at hlb
      have HF : Hid (∀ wx, Below Z w2 wx → wx.cell? ⟨b, off + j * 2, none⟩ = some (.int .i64 (l[j]).key) ∧ wx.cell? ⟨b, off + j * 2 + 1, none⟩ = some (.int .i64 (l[j]).val) ∧ wx.cell? ⟨q, 0, none⟩ = some (.int .i64 e.key) ∧ wx.cell? ⟨q, 1, none⟩ = some (.int .i64 e.val)) := fun wx hb => by
        have h1 := (hb.block q HQZ.out).trans HBOX.out
        exact ⟨by rw [← d0]; exact hb.cell (p := ⟨b, off + j * 2, none⟩) hlb, by rw [← d1]; exact hb.cell (p := ⟨b, off + j * 2 + 1, none⟩) hlb, by rw [cell_of_row _ _ _ _ _ _ h1]; rfl, by rw [cell_of_row _ _ _ _ _ _ h1]; rfl⟩
      have hdrop : l.drop j = l[j] :: l.drop (j + 1) := List.drop_eq_getElem_cons hjl
      have HD : Hid (o ++ ((if (!db && decide (e.key ≤ (l[j]).key)) = true then [e] else []) ++ (if (l[j]).key ≠ e.key then [l[j]] else []) ++ insF e (l.drop (j + 1)) (db || (!db && decide (e.key ≤ (l[j]).key)))) = insE l e) := by
        have h1 := HINV.out
        rw [hdrop, insF_cons] at h1
        exact h1
      generalize l[j] = x at HF HD d0 d1
      clear d0 d1
      have HOL2 : Hid (o.length ≤ n + 1 ∧ (o ++ [e]).length ≤ n + 2 ∧ n ≤ 1000000) := ⟨hol, by simp; omega, by omega⟩
      clear hst hinv hbox2 hjl hdrop hlt hj hol HINV hkc hvc HBX
      have HOLD : Hid (o.length ≤ 100000000) := by
        have := HOL2.out
        show o.length ≤ 100000000
        omega
      obtain ⟨c0, c1, hkc, hvc⟩ := HF.out wr HST.out.below
      cases db
      · by_cases hge : e.key ≤ x.key
        · by_cases hne : x.key ≠ e.key
          · skip
            have HFIN : Hid ((o ++ [e]) ++ [x] ++ insF e (l.drop (j + 1)) true = insE l e) := by
              have h1 := HD.out
              simp [hge, hne] at h1
              show (o ++ [e]) ++ [x] ++ insF e (l.drop (j + 1)) true = insE l e
              try simp
              exact h1
            have hn1 : (x.key == e.key) = false := by simp; exact hne
            have hn2 : ¬ x.key = e.key := hne
            have hg : decide (e.key ≤ x.key) = true := decide_eq_true hge
            go_upto_region 6 with fail
            go_quiet (fail)
            rename Nat => d1
            clear c0 c1 hkc hvc
            have HS3 : Hid (ESt Z w2 o _ (wr.drewN d1)) := HST.out.from (below_drewN (Below.refl _ _) d1) HZ.out
            generalize wr.drewN d1 = w3 at HS3 ⊢
            clear HST
            obtain ⟨c0, c1, hkc, hvc⟩ := HF.out w3 HS3.out.below
            go_upto_region 9 with (at_builtin; refine wpList_append_en rfl (.tmp 26) (.tmp 28) rfl (HS3.out.from (below_new7e _ _) HZ.out) HZ.out rfl e w3.heap.size rfl (cell_newE _ _ _) (by have := HOL.out; omega) ?_; intro v5 w5 hc5)
            obtain ⟨xa5, xc5, hx5⟩ := hc5.val
            subst hx5
            have HS5 := Lib.hid hc5
            clear c0 c1 hkc hvc hc5 HS3
            generalize w5 = w3 at HS5 ⊢
            have HS3 := HS5
            clear HS5
            obtain ⟨c0, c1, hkc, hvc⟩ := HF.out w3 HS3.out.below
            go_quiet (fail)
            rename Nat => d2
            clear c0 c1 hkc hvc
            have HS4 : Hid (ESt Z w2 (o ++ [e]) _ (w3.drewN d2)) := HS3.out.from (below_drewN (Below.refl _ _) d2) HZ.out
            generalize w3.drewN d2 = w4 at HS4 ⊢
            clear HS3
            obtain ⟨c0, c1, hkc, hvc⟩ := HF.out w4 HS4.out.below
            go_wp2_with (at_builtin; refine wpList_append_en rfl (.tmp 38) (.tmp 43) rfl (HS4.out.from (below_new7e _ _) HZ.out) HZ.out rfl x w4.heap.size rfl (cell_newE _ _ _) (by have := HOL2.out; omega) ?_; intro v5 w5 hc5)
            exact ⟨⟨(o ++ [e]) ++ [x], true, j + 1, by go_num, rfl, by have := HJ.out; have := HN.out; omega, hc5, HFIN.out⟩, by have := HJ.out; simp [intOf]; omega⟩
          · skip
            have HFIN : Hid ((o ++ [e]) ++ insF e (l.drop (j + 1)) true = insE l e) := by
              have h1 := HD.out
              simp [hge, hne] at h1
              show (o ++ [e]) ++ insF e (l.drop (j + 1)) true = insE l e
              try simp
              exact h1
            have hn2 : x.key = e.key := Classical.not_not.1 hne
            have hn1 : (x.key == e.key) = true := by simp; exact hn2
            have hg : decide (e.key ≤ x.key) = true := decide_eq_true hge
            go_upto_region 6 with fail
            go_quiet (fail)
            rename Nat => d1
            clear c0 c1 hkc hvc
            have HS3 : Hid (ESt Z w2 o _ (wr.drewN d1)) := HST.out.from (below_drewN (Below.refl _ _) d1) HZ.out
            generalize wr.drewN d1 = w3 at HS3 ⊢
            clear HST
            obtain ⟨c0, c1, hkc, hvc⟩ := HF.out w3 HS3.out.below
            go_upto_region 9 with (at_builtin; refine wpList_append_en rfl (.tmp 26) (.tmp 28) rfl (HS3.out.from (below_new7e _ _) HZ.out) HZ.out rfl e w3.heap.size rfl (cell_newE _ _ _) (by have := HOL.out; omega) ?_; intro v5 w5 hc5)
            obtain ⟨xa5, xc5, hx5⟩ := hc5.val
            subst hx5
            have HS5 := Lib.hid hc5
            clear c0 c1 hkc hvc hc5 HS3
            generalize w5 = w3 at HS5 ⊢
            have HS3 := HS5
            clear HS5
            obtain ⟨c0, c1, hkc, hvc⟩ := HF.out w3 HS3.out.below
            go_quiet (fail)
            rename Nat => d2
            clear c0 c1 hkc hvc
            have HS4 : Hid (ESt Z w2 (o ++ [e]) _ (w3.drewN d2)) := HS3.out.from (below_drewN (Below.refl _ _) d2) HZ.out
            generalize w3.drewN d2 = w4 at HS4 ⊢
            clear HS3
            obtain ⟨c0, c1, hkc, hvc⟩ := HF.out w4 HS4.out.below
            go_wp2_with fail
            exact ⟨⟨o ++ [e], true, j + 1, by go_num, rfl, by have := HJ.out; have := HN.out; omega, HS4.out, HFIN.out⟩, by have := HJ.out; simp [intOf]; omega⟩
        · have hne : x.key ≠ e.key := by omega
          have HFIN : Hid ((o) ++ [x] ++ insF e (l.drop (j + 1)) false = insE l e) := by
            have h1 := HD.out
            simp [hge, hne] at h1
            show (o) ++ [x] ++ insF e (l.drop (j + 1)) false = insE l e
            try simp
            exact h1
          have hn1 : (x.key == e.key) = false := by simp; exact hne
          have hn2 : ¬ x.key = e.key := hne
          have hg : decide (e.key ≤ x.key) = false := decide_eq_false hge
          go_upto_region 6 with fail
          go_quiet (fail)
          rename Nat => d1
          clear c0 c1 hkc hvc
          have HS3 : Hid (ESt Z w2 o _ (wr.drewN d1)) := HST.out.from (below_drewN (Below.refl _ _) d1) HZ.out
          generalize wr.drewN d1 = w3 at HS3 ⊢
          clear HST
          go_upto_region 9 with fail
          obtain ⟨c0, c1, hkc, hvc⟩ := HF.out w3 HS3.out.below
          go_quiet (fail)
          rename Nat => d2
          clear c0 c1 hkc hvc
          have HS4 : Hid (ESt Z w2 (o) _ (w3.drewN d2)) := HS3.out.from (below_drewN (Below.refl _ _) d2) HZ.out
          generalize w3.drewN d2 = w4 at HS4 ⊢
          clear HS3
          obtain ⟨c0, c1, hkc, hvc⟩ := HF.out w4 HS4.out.below
          go_wp2_with (at_builtin; refine wpList_append_en rfl (.tmp 38) (.tmp 43) rfl (HS4.out.from (below_new7e _ _) HZ.out) HZ.out rfl x w4.heap.size rfl (cell_newE _ _ _) (by have := HOL2.out; omega) ?_; intro v5 w5 hc5)
          exact ⟨⟨(o) ++ [x], false, j + 1, by go_num, rfl, by have := HJ.out; have := HN.out; omega, hc5, HFIN.out⟩, by have := HJ.out; simp [intOf]; omega⟩
      · by_cases hne : x.key ≠ e.key
        · skip
          have HFIN : Hid ((o) ++ [x] ++ insF e (l.drop (j + 1)) true = insE l e) := by
            have h1 := HD.out
            simp [hne] at h1
            show (o) ++ [x] ++ insF e (l.drop (j + 1)) true = insE l e
            try simp
            exact h1
          have hn1 : (x.key == e.key) = false := by simp; exact hne
          have hn2 : ¬ x.key = e.key := hne
          go_upto_region 6 with fail
          go_quiet (fail)
          rename Nat => d1
          clear c0 c1 hkc hvc
          have HS3 : Hid (ESt Z w2 o _ (wr.drewN d1)) := HST.out.from (below_drewN (Below.refl _ _) d1) HZ.out
          generalize wr.drewN d1 = w3 at HS3 ⊢
          clear HST
          go_upto_region 9 with fail
          obtain ⟨c0, c1, hkc, hvc⟩ := HF.out w3 HS3.out.below
          go_quiet (fail)
          rename Nat => d2
          clear c0 c1 hkc hvc
          have HS4 : Hid (ESt Z w2 (o) _ (w3.drewN d2)) := HS3.out.from (below_drewN (Below.refl _ _) d2) HZ.out
          generalize w3.drewN d2 = w4 at HS4 ⊢
          clear HS3
          obtain ⟨c0, c1, hkc, hvc⟩ := HF.out w4 HS4.out.below
          go_wp2_with (at_builtin; refine wpList_append_en rfl (.tmp 38) (.tmp 43) rfl (HS4.out.from (below_new7e _ _) HZ.out) HZ.out rfl x w4.heap.size rfl (cell_newE _ _ _) (by have := HOL2.out; omega) ?_; intro v5 w5 hc5)
          exact ⟨⟨(o) ++ [x], true, j + 1, by go_num, rfl, by have := HJ.out; have := HN.out; omega, hc5, HFIN.out⟩, by have := HJ.out; simp [intOf]; omega⟩
        · skip
          have HFIN : Hid ((o) ++ insF e (l.drop (j + 1)) true = insE l e) := by
            have h1 := HD.out
            simp [hne] at h1
            show (o) ++ insF e (l.drop (j + 1)) true = insE l e
            try simp
            exact h1
          have hn2 : x.key = e.key := Classical.not_not.1 hne
          have hn1 : (x.key == e.key) = true := by simp; exact hn2
          go_upto_region 6 with fail
          go_quiet (fail)
          rename Nat => d1
          clear c0 c1 hkc hvc
          have HS3 : Hid (ESt Z w2 o _ (wr.drewN d1)) := HST.out.from (below_drewN (Below.refl _ _) d1) HZ.out
          generalize wr.drewN d1 = w3 at HS3 ⊢
          clear HST
          go_upto_region 9 with fail
          obtain ⟨c0, c1, hkc, hvc⟩ := HF.out w3 HS3.out.below
          go_quiet (fail)
          rename Nat => d2
          clear c0 c1 hkc hvc
          have HS4 : Hid (ESt Z w2 (o) _ (w3.drewN d2)) := HS3.out.from (below_drewN (Below.refl _ _) d2) HZ.out
          generalize w3.drewN d2 = w4 at HS4 ⊢
          clear HS3
          obtain ⟨c0, c1, hkc, hvc⟩ := HF.out w4 HS4.out.below
          go_wp2_with fail
          exact ⟨⟨o, true, j + 1, by go_num, rfl, by have := HJ.out; have := HN.out; omega, HS4.out, HFIN.out⟩, by have := HJ.out; simp [intOf]; omega⟩
    · have hjn : j = n := by omega
      have hdr : l.drop j = [] := List.drop_eq_nil_of_le (by rw [HN.out]; omega)
      rw [hdr] at hinv
      have hlt0 : ¬ (j : Int) < (n : Int) := by omega
      have HBW : Hid (∀ wx, Below Z w2 wx → Below w.heap.size w wx) := fun wx hb => by rw [HQ.out]; exact HB.out.trans (hb.mono (Nat.le_of_lt HQZ.out))
      have HOLD : Hid (o.length ≤ 100000000) := by
        show o.length ≤ 100000000
        omega
      clear hst hbox2 HBX HINV hdr hjn hlt hj hol
      cases db
      · have HF : Hid (o ++ [e] = insE l e) := hinv
        clear hinv
        go_wp2_with (at_builtin; refine wpList_append_en rfl (.tmp 47) (.tmp 49) rfl (HST.out.from (below_new7e _ _) HZ.out) HZ.out rfl e wr.heap.size rfl (cell_newE _ _ _) HOLD.out ?_; intro v5 w5 hc5)
        go_ret
        obtain ⟨xa5, xc5, hx5⟩ := hc5.val
        subst hx5
        have hrow := hc5.row
        have hbl := HBW.out _ hc5.below
        rw [HF.out] at hrow ⊢
        exact ⟨xa5, xc5, rfl, row_mono hrow (by rw [HQ.out]; exact Nat.le_of_lt HQZ.out), hbl⟩
      · have HF : Hid (o = insE l e) := by
          have h1 := hinv
          unfold insF at h1
          show o = insE l e
          simpa using h1
        clear hinv
        go_wp2_with fail
        go_ret
        have hrow := HST.out.row
        have hbl := HBW.out _ HST.out.below
        rw [HF.out] at hrow ⊢
        exact ⟨xa, xc, rfl, row_mono hrow (by rw [HQ.out]; exact Nat.le_of_lt HQZ.out), hbl⟩
def LRel (w : World) (raw : List En) (k : Nat) (x i : Value) (wr : World) : Prop :=
  ∃ (j : Nat) (a : Option Addr) (c : Nat), i = .int .i64 (j : Int) ∧ j ≤ k ∧ j ≤ raw.length ∧ x = .slice a (listE raw j).length c ∧ wr.ownsRow w.heap.size 69 2 (.slice a (listE raw j).length c) (listE raw j).length (ensV (listE raw j)) ∧ Below w.heap.size w wr
set_option maxHeartbeats 2000000 in
set_option maxRecDepth 100000 in
theorem list_any {w : World} {a : Option Addr} {n c k : Nat} {raw : List En} (h : EnsAt w a raw) (hn : raw.length = n) (hnm : n ≤ 9223372036854775807) (hk : k ≤ 100000) :
    Calls Tryz.prog 32 #[.slice a n c, .int .i64 (k : Int)] w (MadeEns w (listE raw k)) := by
  have HE := Lib.hid h
  have HN := Lib.hid hn
  have hni : (n : Int) ≤ 9223372036854775807 := by omega
  have hki : (k : Int) ≤ 100000 := by omega
  have HKK : Hid (k ≤ 100000) := hk
  have HR0 : Hid (LRel w raw k (.slice none 0 0) (.int .i64 0) w) := ⟨0, none, 0, rfl, Nat.zero_le _, Nat.zero_le _, rfl, World.ownsRow_nil _ _ _ _, Below.refl _ _⟩
  clear h hn hnm hk
  go_enter Tryz.func32, Tryz.ntmps32
  go_wp2_with fail
  go_loopw [5, 6] (fun x i wr => LRel w raw k x i wr) (fun _ i _ => k - (intOf i).toNat)
  case atStart => exact HR0.out
  case round =>
    clear HR0
    obtain ⟨j, xa, xc, rfl, hjk, hjl, rfl, hrow, hb⟩ := hrel
    have HROW := Lib.hid hrow
    have HB := Lib.hid hb
    have hlen := listE_len raw j
    have HLEN : Hid ((listE raw j).length ≤ 1000000) := (by show (listE raw j).length ≤ 1000000; omega)
    have HWF : Hid (∀ y ∈ listE raw j, i64R y.key ∧ i64R y.val) := fun y hy => HE.out.wf y (listE_mem hy)
    by_cases hlt : j < n
    · have hji : (j : Int) < (n : Int) := by omega
      have hj0 : (0 : Int) ≤ (j : Int) := by omega
      by_cases hlk : j < k
      · have hji2 : (j : Int) < (k : Int) := by omega
        have hjr : j < raw.length := by rw [HN.out]; exact hlt
        have HS : Hid (listE raw (j + 1) = insE (listE raw j) raw[j]) := listE_succ hjr
        have HX : Hid (i64R (raw[j]).key ∧ i64R (raw[j]).val) := HE.out.wf _ (List.getElem_mem hjr)
        obtain ⟨b, off, rfl, hlb, c0, c1⟩ := (HE.out.below hb).cell j raw[j] (List.getElem?_eq_getElem hjr)
        generalize raw[j] = e at c0 c1 HS HX
        have HJ : Hid (j < k ∧ j + 1 ≤ raw.length) := ⟨hlk, hjr⟩
        have HSL : Hid (EnsAt wr xa (listE raw j)) := ens_at hrow HWF.out
        clear hrow hb hlen hjr hlt hlk hjk hjl
        generalize hL : listE raw j = L at HROW HLEN HWF HS HSL ⊢
        clear hL
        go_wp2_with fail
        refine (insert_any e HSL.out HX.out HLEN.out).mono ?_
        rintro ee w3 ⟨a3, c3, rfl, hrow3, hb3⟩
        rw [← HS.out] at hrow3 ⊢
        have HR : Hid (LRel w raw k (.slice a3 (listE raw (j + 1)).length c3) (.int .i64 ((j : Int) + 1)) w3) := ⟨j + 1, a3, c3, by congr 1, HJ.out.1, HJ.out.2, rfl, row_mono hrow3 HB.out.size, HB.out.trans (hb3.mono HB.out.size)⟩
        clear hrow3 hb3
        generalize (listE raw (j + 1)).length = LL at HR ⊢
        go_wp2_with fail
        exact ⟨HR.out, by have := HJ.out; simp [intOf]; omega⟩
      · have hlk0 : ¬ (j : Int) < (k : Int) := by omega
        obtain rfl : j = k := by omega
        clear hrow hb hlen hlt hlk hjk hjl hlk0
        go_wp2_with fail
        go_ret
        exact ⟨xa, xc, rfl, HROW.out, HB.out⟩
    · have hlt0 : ¬ (j : Int) < (n : Int) := by omega
      have HF : Hid (listE raw j = listE raw k) := by
        show listE raw j = listE raw k
        unfold listE
        rw [List.take_of_length_le (show raw.length ≤ j by rw [HN.out]; omega), List.take_of_length_le (show raw.length ≤ k by rw [HN.out]; omega)]
      clear hrow hb hlen hlt hjk hjl
      go_wp2_with fail
      go_ret
      have hr := HROW.out
      rw [HF.out] at hr ⊢
      exact ⟨xa, xc, rfl, hr, HB.out⟩
end Go.Proofs.YtfihklpofmcfgaaGreat
