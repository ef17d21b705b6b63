/- The reference's parts of lists: Between, Head; plain, and their walks. -/
import Derived.Test.YtkhfofpbmnapjaaRefNear
import Derived.Test.YtkhfofpbmnapjaaSlotsAid
import Derived.Laws.OwnMore
import Derived.Laws.AppendOwnNone
import Derived.Deep.RegionHeldLaw
set_option linter.unusedVariables false
set_option linter.unusedSimpArgs false
namespace Go.Proofs.Ytkhfofpbmnapjaa
open Go.RowKit
def betE (l : List En) (lo hi : Int) : List En := l.filter fun e => decide (lo ≤ e.key ∧ e.key ≤ hi)
theorem filt_succ {l : List En} {j : Nat} {e : En} (h : l[j]? = some e) (p : En → Bool) : (l.take (j + 1)).filter p = (l.take j).filter p ++ (if p e = true then [e] else []) := by
  obtain ⟨hj, he⟩ := List.getElem?_eq_some_iff.1 h
  rw [List.take_succ_eq_append_getElem hj, List.filter_append, he]
  congr 1
  cases hp : p e <;> simp [hp]
/-- a row of entries while it is gathered -/
def SubRel (w : World) (g : Nat → List En) (n : Nat) (x i : Value) (wr : World) : Prop :=
  ∃ j : Nat, i = .int .i64 (j : Int) ∧ j ≤ n ∧ ESt w.heap.size w (g j) x wr
theorem SubRel.start (w : World) (g : Nat → List En) (n : Nat) (hg : g 0 = []) : SubRel w g n (.slice none 0 0) (.int .i64 0) w := ⟨0, rfl, Nat.zero_le _, by rw [hg]; exact ESt.start w rfl⟩
theorem ESt.made {w w' : World} {l : List En} {v : Value} (h : ESt w.heap.size w l v w') : MadeEns w l (.returned v) w' := by
  obtain ⟨a, c, rfl⟩ := h.val
  exact ⟨a, c, rfl, h.row, h.below⟩
theorem ensV_app (l m : List En) : ensV (l ++ m) = ensV l ++ ensV m := by simp [ensV]
theorem ensV_ones (l : List En) : ∀ u ∈ ensV l, u.oneCell' = true := by
  intro u hu
  obtain ⟨e, he, h⟩ := List.mem_flatMap.1 hu
  exact en_one e u h
theorem add_atE (b off j : Nat) : (⟨b, off, none⟩ : Addr).add j = ⟨b, off + j, none⟩ := by simp [Addr.add]
theorem EnsAt.cellV {w : World} {x0 : Addr} {l : List En} (h : EnsAt w (some x0) l) : ∀ j u, (ensV l)[j]? = some u → w.cell? (x0.add j) = some u := by
  intro j u hu
  have hj : j < l.length * 2 := by have := (List.getElem?_eq_some_iff.1 hu).1; rwa [ensV_len] at this
  have hi : j / 2 < l.length := by omega
  have he : l[j / 2]? = some l[j / 2] := List.getElem?_eq_getElem hi
  obtain ⟨b, off, hb, _, h1, h2⟩ := h.cell (j / 2) _ he
  simp only [Option.some.injEq] at hb
  subst hb
  rw [add_atE]
  have hk : j % 2 < 2 := Nat.mod_lt _ (by decide)
  have hv := ensV_at l (j / 2) (j % 2) _ he hk
  rw [show j / 2 * 2 + j % 2 = j by omega, hu] at hv
  rcases Nat.lt_or_ge (j % 2) 1 with h0 | h0
  · rw [show off + j = off + j / 2 * 2 by omega, h1]
    rw [show j % 2 = 0 by omega] at hv
    exact hv.symm
  · rw [show off + j = off + j / 2 * 2 + 1 by omega, h2]
    rw [show j % 2 = 1 by omega] at hv
    exact hv.symm
/-- append of a slice of entries to a row of the call's own -/
theorem wpList_append_ens {ops : Array Oper} {rest : List Oper} {o : Oper} {a : Act} {w w2 : World} {Q : Exit → Act → World → Prop} {Z : Nat} {l0 l : List En} {v : Value} (hgd : o.guard = none) (s x : Operand)
    (ho : o.op = .call { callee := .builtin .append, args := #[s, x], argTypes := #[47, 47] })
    (hc : ESt Z w2 l0 v w) (hZ : w2.heap.size = Z) (hs : a.eval s = v) (ad : Option Addr) (c m : Nat) (hm : l.length = m) (hx : a.eval x = .slice ad m c) (hrow : EnsAt w ad l) (hl : l0.length + m ≤ 100000000)
    (h : ∀ v' w', ESt Z w2 (l0 ++ l) v' w' → wpList Try.prog ops Q rest (a.put o.dst v') w') : wpList Try.prog ops Q (o :: rest) a w := by
  obtain ⟨i, ji, jz0, jz1, jz2⟩ := info_parts enInfo
  subst hm
  cases ad with
  | some x0 =>
    refine wpList_append_own _ hgd s x 47 ho Z 60 i (.agg #[.int .i64 0, .int .i64 0]) 2 16 Try.underlying47 ji jz0 jz1 jz2 rfl (by decide) v l0.length (ensV l0) hs hc.row x0 l.length c (ensV l) hx (ensV_len l) hrow.cellV (ensV_ones l) (by unfold maxLen; omega) (by omega) (by have := hc.below.size; omega) ?_
    intro v' w' ho' hg _
    refine h v' w' ?_
    obtain ⟨a', c', hv⟩ := row_val ho'
    refine ⟨⟨a', c', by rw [List.length_append]; exact hv⟩, ?_, hc.below.grown hg (by have := hc.below.size; omega) (row_from hc.row)⟩
    rw [List.length_append, ensV_app]
    exact ho'
  | none =>
    have hl0 : l = [] := by
      cases l with
      | nil => rfl
      | cons y t => obtain ⟨_, _, hb, _⟩ := hrow.cell 0 y rfl; cases hb
    subst hl0
    refine wpList_plain hgd fun K hK => ?_
    have hK2 := hK _ _ (h v w (by rw [List.append_nil]; exact hc))
    unfold Oper.wp
    simp only [List.length_nil] at hx
    have hc0 : ∀ c', (Builtin.append_ #[47, 47] o.type #[v, .slice none 0 c']).run Try.prog w = .ok v w := fun c' => by
      refine Eq.trans ?_ (run_append_owned_none (P := Try.prog) (w := w) Z 47 o.type 60 i 2 Try.underlying47 ji v l0.length (ensV l0) hc.row)
      rfl
    simp [execOp, ho, resolve, invoke, builtin, hs, hx, hc0, Result.andThen]
    exact hK2
section
variable {Z : Nat} {w2 w w' : World} {l : List En} {v v' : Value}
theorem step_append_en {ops : Array Oper} {o : Oper} {a : Act} {K : Act → World → Prop} {Q : Exit → Act → World → Prop} {E : Prop} (hgd : o.guard = none) (s x : Operand)
    (ho : o.op = .call { callee := .builtin .append, args := #[s, x], argTypes := #[47, 47] })
    (hc : ESt Z w2 l v w) (hZ : w2.heap.size = Z) (hs : a.eval s = v) (e : En) (g : Nat) (hx : a.eval x = .slice (some ⟨g, 0, none⟩) 1 1)
    (hn : ∀ j u, (enV e)[j]? = some u → w.cell? ((⟨g, 0, none⟩ : Addr).add j) = some u) (hl : l.length ≤ 100000000)
    (h : ∀ v' w', ESt Z w2 (l ++ [e]) v' w' → w.grownBy w' v.ownBlock → K (a.put o.dst v') w') : if Region.wanted o (yielded ops a.tmps) = true then Oper.wp Try.prog o a w K Q else E := by
  have hw : Region.wanted o (yielded ops a.tmps) = true := by simp [Region.wanted, hgd]
  rw [if_pos hw]
  obtain ⟨i, ji, jz0, jz1, jz2⟩ := info_parts enInfo
  refine wp_append_own w s x 47 ho Z 60 i (.agg #[.int .i64 0, .int .i64 0]) 2 16 Try.underlying47 ji jz0 jz1 jz2 rfl (by decide) v l.length (ensV l) hs hc.row ⟨g, 0, none⟩ 1 1 (enV e) hx rfl hn (en_one e) (by unfold maxLen; omega) (by omega) (by have := hc.below.size; omega) ?_
  intro v' w' ho' hg _
  refine h v' w' ?_ hg
  obtain ⟨a', c', hv⟩ := row_val ho'
  refine ⟨⟨a', c', by rw [List.length_append]; exact hv⟩, ?_, hc.below.grown hg (by have := hc.below.size; omega) (row_from hc.row)⟩
  rw [List.length_append, ensV_snoc]
  exact ho'
end
end Go.Proofs.Ytkhfofpbmnapjaa
