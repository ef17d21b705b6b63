/- Lists of entries: a slice of them, read; a row of them that a call makes; the reference's Insert and the kit's List. -/
import Derived.Test.YtkhfofpbmnapjaaBase
import Derived.Test.YtkhfofpbmnapjaaOwn
import Derived.Test.YtkhfofpbmnapjaaTrees
import Derived.Deep.DeepCutAuto
import Derived.Deep.QuietTactic
set_option linter.unusedVariables false
set_option linter.unusedSimpArgs false
namespace Go.Proofs.Ytkhfofpbmnapjaa
open Go.RowKit
structure En where
  key : Int
  val : Int
  deriving DecidableEq
def enV (e : En) : List Value := [.int .i64 e.key, .int .i64 e.val]
def ensV (l : List En) : List Value := l.flatMap enV
theorem ensV_snoc (l : List En) (e : En) : ensV (l ++ [e]) = ensV l ++ enV e := by simp [ensV]
theorem ensV_len (l : List En) : (ensV l).length = l.length * 2 := by
  induction l with
  | nil => rfl
  | cons a t ih => simp only [ensV, List.flatMap_cons, List.length_append, List.length_cons] at ih ⊢; rw [ih]; simp [enV]; omega
theorem ensV_at : ∀ (l : List En) (i j : Nat) (e : En), l[i]? = some e → j < 2 → (ensV l)[i * 2 + j]? = (enV e)[j]?
  | [], i, j, e, h, hj => by simp at h
  | a :: t, 0, j, e, h, hj => by
    simp at h; subst h
    show (enV a ++ ensV t)[0 * 2 + j]? = _
    rw [Nat.zero_mul, Nat.zero_add, List.getElem?_append_left (by exact hj)]
  | a :: t, i + 1, j, e, h, hj => by
    simp at h
    show (enV a ++ ensV t)[(i + 1) * 2 + j]? = _
    rw [List.getElem?_append_right (by show 2 ≤ _; omega), show (i + 1) * 2 + j - (enV a).length = i * 2 + j by show (i + 1) * 2 + j - 2 = _; omega]
    exact ensV_at t i j e h hj
def i64R (x : Int) : Prop := -9223372036854775808 ≤ x ∧ x ≤ 9223372036854775807
/-- a slice of entries, read -/
structure EnsAt (w : World) (a : Option Addr) (l : List En) : Prop where
  cell : ∀ j e, l[j]? = some e → ∃ b off, a = some ⟨b, off, none⟩ ∧ b < w.heap.size ∧ w.cell? ⟨b, off + j * 2, none⟩ = some (.int .i64 e.key) ∧ w.cell? ⟨b, off + j * 2 + 1, none⟩ = some (.int .i64 e.val)
  wf : ∀ e ∈ l, i64R e.key ∧ i64R e.val
theorem EnsAt.below {w w' : World} {a : Option Addr} {l : List En} (h : EnsAt w a l) (hb : Below w.heap.size w w') : EnsAt w' a l := by
  refine ⟨fun j e he => ?_, h.wf⟩
  obtain ⟨b, off, ha, hlt, h1, h2⟩ := h.cell j e he
  exact ⟨b, off, ha, Nat.lt_of_lt_of_le hlt hb.size, by rw [← h1]; exact hb.cell (p := ⟨b, off + j * 2, none⟩) hlt, by rw [← h2]; exact hb.cell (p := ⟨b, off + j * 2 + 1, none⟩) hlt⟩
theorem EnsAt.nil (w : World) (a : Option Addr) : EnsAt w a [] := ⟨fun j e he => by simp at he, fun e he => by cases he⟩
theorem ens_at {w : World} {B c : Nat} {a : Option Addr} {l : List En} (h : w.ownsRow B 60 2 (.slice a l.length c) l.length (ensV l)) (hw : ∀ e ∈ l, i64R e.key ∧ i64R e.val) : EnsAt w a l := by
  refine ⟨fun j e he => ?_, hw⟩
  have hj : j < l.length := (List.getElem?_eq_some_iff.1 he).1
  rcases h.2 with ⟨hv, hn⟩ | ⟨g, cap, cur, hv, hB, hc, hn, hcm, hs, ht⟩
  · omega
  · simp only [Value.slice.injEq] at hv
    obtain ⟨rfl, _, _⟩ := hv
    refine ⟨g, 0, rfl, (Array.getElem?_eq_some_iff.1 hc).1, ?_, ?_⟩
    · rw [Nat.zero_add, h.cellAt (j * 2) (by omega), show j * 2 = j * 2 + 0 from rfl, ensV_at l j 0 e he (by omega)]; rfl
    · rw [Nat.zero_add, h.cellAt (j * 2 + 1) (by omega), ensV_at l j 1 e he (by omega)]; rfl
/-! ### Insert, List, as plain lists -/
def insF (e : En) : List En → Bool → List En
  | [], d => if d then [] else [e]
  | x :: t, d => (if (!d && decide (e.key ≤ x.key)) = true then [e] else []) ++ (if x.key ≠ e.key then [x] else []) ++ insF e t (d || (!d && decide (e.key ≤ x.key)))
def insE (l : List En) (e : En) : List En := insF e l false
def listE (l : List En) (k : Nat) : List En := (l.take k).foldl insE []
def Up (l : List En) : Prop := l.Pairwise (fun x y => x.key < y.key)
theorem insF_true (e : En) : ∀ t : List En, insF e t true = t.filter fun x => decide (x.key ≠ e.key)
  | [] => rfl
  | x :: t => by
    unfold insF
    rw [show (true || (!true && decide (e.key ≤ x.key))) = true from rfl, insF_true e t]
    by_cases h : x.key = e.key <;> simp [h]
theorem insF_mem (e : En) : ∀ (l : List En) (d : Bool) (y : En), y ∈ insF e l d → y ∈ l ∨ y = e
  | [], d, y, h => by
    unfold insF at h
    cases d <;> simp at h
    exact .inr h
  | x :: t, d, y, h => by
    unfold insF at h
    rcases List.mem_append.1 h with h | h
    · rcases List.mem_append.1 h with h | h
      · split at h
        · simp at h; exact .inr h
        · cases h
      · split at h
        · simp at h; exact .inl (by simp [h])
        · cases h
    · rcases insF_mem e t _ y h with h | h
      · exact .inl (by simp [h])
      · exact .inr h
theorem insF_up (e : En) : ∀ (l : List En), Up l → Up (insF e l false)
  | [], h => by unfold insF; simp [Up]
  | x :: t, h => by
    unfold Up at h
    rw [List.pairwise_cons] at h
    unfold insF
    by_cases hx : e.key ≤ x.key
    · have e1 : (!false && decide (e.key ≤ x.key)) = true := by simp [hx]
      rw [if_pos e1, show (false || (!false && decide (e.key ≤ x.key))) = true by simp [hx], insF_true]
      have hf : Up (t.filter fun x => decide (x.key ≠ e.key)) := h.2.filter _
      have hm : ∀ y ∈ t.filter (fun x => decide (x.key ≠ e.key)), x.key < y.key := fun y hy => h.1 y (List.mem_filter.1 hy).1
      by_cases hne : x.key ≠ e.key
      · rw [if_pos hne]
        show Up (e :: x :: t.filter _)
        unfold Up
        rw [List.pairwise_cons, List.pairwise_cons]
        refine ⟨fun y hy => ?_, hm, hf⟩
        rcases List.mem_cons.1 hy with rfl | hy
        · omega
        · have := hm y hy; omega
      · rw [if_neg hne]
        show Up (e :: t.filter _)
        unfold Up
        rw [List.pairwise_cons]
        exact ⟨fun y hy => by have := hm y hy; omega, hf⟩
    · have e1 : ¬ (!false && decide (e.key ≤ x.key)) = true := by simp [hx]
      rw [if_neg e1, show (false || (!false && decide (e.key ≤ x.key))) = false by simp [hx], if_pos (show x.key ≠ e.key by omega)]
      show Up (x :: insF e t false)
      unfold Up
      rw [List.pairwise_cons]
      refine ⟨fun y hy => ?_, insF_up e t h.2⟩
      rcases insF_mem e t false y hy with h1 | rfl
      · exact h.1 y h1
      · omega
theorem insF_len (e : En) : ∀ (l : List En) (d : Bool), (insF e l d).length ≤ l.length + (if d then 0 else 1)
  | [], d => by unfold insF; cases d <;> simp
  | x :: t, d => by
    unfold insF
    have h := insF_len e t (d || (!d && decide (e.key ≤ x.key)))
    cases d
    · by_cases hx : e.key ≤ x.key
      · simp [hx] at h ⊢
        split <;> simp <;> omega
      · simp [hx] at h ⊢
        split <;> simp <;> omega
    · simp at h ⊢
      split <;> simp <;> omega
theorem insE_up {l : List En} (e : En) (h : Up l) : Up (insE l e) := insF_up e l h
theorem insE_mem {l : List En} {e y : En} (h : y ∈ insE l e) : y ∈ l ∨ y = e := insF_mem e l false y h
theorem insE_len (l : List En) (e : En) : (insE l e).length ≤ l.length + 1 := by have h := insF_len e l false; unfold insE; simp at h; omega
theorem foldl_up : ∀ (l acc : List En), Up acc → Up (l.foldl insE acc)
  | [], acc, h => h
  | x :: t, acc, h => foldl_up t _ (insE_up x h)
theorem foldl_len : ∀ (l acc : List En), (l.foldl insE acc).length ≤ acc.length + l.length
  | [], acc => by simp
  | x :: t, acc => by
    have h1 := foldl_len t (insE acc x)
    have h2 := insE_len acc x
    simp only [List.foldl_cons, List.length_cons]
    omega
theorem foldl_mem : ∀ (l acc : List En) (y : En), y ∈ l.foldl insE acc → y ∈ acc ∨ y ∈ l
  | [], acc, y, h => .inl h
  | x :: t, acc, y, h => by
    rcases foldl_mem t _ y h with h1 | h1
    · rcases insE_mem h1 with h2 | h2
      · exact .inl h2
      · exact .inr (by simp [h2])
    · exact .inr (by simp [h1])
theorem listE_up (l : List En) (k : Nat) : Up (listE l k) := foldl_up _ _ List.Pairwise.nil
theorem listE_len (l : List En) (k : Nat) : (listE l k).length ≤ k := by have h := foldl_len (l.take k) []; have h2 := List.length_take_le k l; unfold listE; simp at h; omega
theorem listE_mem {l : List En} {k : Nat} {y : En} (h : y ∈ listE l k) : y ∈ l := by
  rcases foldl_mem _ _ y h with h1 | h1
  · cases h1
  · exact List.mem_of_mem_take h1
theorem listE_succ {l : List En} {k : Nat} (h : k < l.length) : listE l (k + 1) = insE (listE l k) l[k] := by
  unfold listE
  rw [List.take_succ_eq_append_getElem h, List.foldl_append]
  rfl
/-! ### the row that a call makes -/
theorem enInfo : (Try.prog.info? 60).map (fun i => (i.zero, i.size, i.bytes)) = some (some (.agg #[.int .i64 0, .int .i64 0]), 2, 16) := by kernel_rfl
structure ESt (Z : Nat) (w2 : World) (l : List En) (v : Value) (wr : World) : Prop where
  val : ∃ a c, v = .slice a l.length c
  row : wr.ownsRow Z 60 2 v l.length (ensV l)
  below : Below Z w2 wr
section
variable {Z : Nat} {w2 wr w' : World} {l : List En} {v v' : Value}
theorem ESt.from (h : ESt Z w2 l v wr) (hb : Below wr.heap.size wr w') (hZ : w2.heap.size = Z) : ESt Z w2 l v w' :=
  ⟨h.val, row_below h.row hb, h.below.trans (hb.mono (by have := h.below.size; omega))⟩
theorem ESt.start (w2 : World) (hZ : w2.heap.size = Z) : ESt Z w2 [] (.slice none 0 0) w2 := ⟨⟨none, 0, rfl⟩, World.ownsRow_nil _ _ _ _, Below.refl _ _⟩
theorem cell_newE (w : World) (e : En) (t : TypeId) : ∀ j v, (enV e)[j]? = some v → (w.alloc (.cells #[.int .i64 e.key, .int .i64 e.val] t)).cell? ((⟨w.heap.size, 0, none⟩ : Addr).add j) = some v := by
  intro j v hu
  match j, hu with
  | 0, hu => simp [enV] at hu; subst hu; simp [Addr.add]
  | 1, hu => simp [enV] at hu; subst hu; simp [Addr.add]
theorem en_one (e : En) : ∀ u ∈ enV e, u.oneCell' = true := by
  intro u hu
  simp [enV] at hu
  rcases hu with rfl | rfl <;> rfl
theorem wpList_append_en {ops : Array Oper} {rest : List Oper} {o : Oper} {a : Act} {w : World} {Q : Exit → Act → World → Prop} (hgd : o.guard = none) (s x : Operand)
    (ho : o.op = .call { callee := .builtin .append, args := #[s, x], argTypes := #[47, 47] })
    (hc : ESt Z w2 l v w) (hZ : w2.heap.size = Z) (hs : a.eval s = v) (e : En) (g : Nat) (hx : a.eval x = .slice (some ⟨g, 0, none⟩) 1 1)
    (hn : ∀ j u, (enV e)[j]? = some u → w.cell? ((⟨g, 0, none⟩ : Addr).add j) = some u) (hl : l.length ≤ 100000000)
    (h : ∀ v' w', ESt Z w2 (l ++ [e]) v' w' → wpList Try.prog ops Q rest (a.put o.dst v') w') : wpList Try.prog ops Q (o :: rest) a w := by
  obtain ⟨i, ji, jz0, jz1, jz2⟩ := info_parts enInfo
  refine wpList_append_own _ hgd s x 47 ho Z 60 i (.agg #[.int .i64 0, .int .i64 0]) 2 16 Try.underlying47 ji jz0 jz1 jz2 rfl (by decide) v l.length (ensV l) hs hc.row ⟨g, 0, none⟩ 1 1 (enV e) hx rfl hn (en_one e) (by unfold maxLen; omega) (by omega) (by have := hc.below.size; omega) ?_
  intro v' w' ho' hg _
  refine h v' w' ?_
  obtain ⟨a', c', hv⟩ := row_val ho'
  refine ⟨⟨a', c', by rw [List.length_append]; exact hv⟩, ?_, hc.below.grown hg (by have := hc.below.size; omega) (row_from hc.row)⟩
  rw [List.length_append, ensV_snoc]
  exact ho'
end
def MadeEns (w : World) (l : List En) (e : Ending) (w' : World) : Prop :=
  ∃ a c, e = .returned (.slice a l.length c) ∧ w'.ownsRow w.heap.size 60 2 (.slice a l.length c) l.length (ensV l) ∧ Below w.heap.size w w'
end Go.Proofs.Ytkhfofpbmnapjaa
