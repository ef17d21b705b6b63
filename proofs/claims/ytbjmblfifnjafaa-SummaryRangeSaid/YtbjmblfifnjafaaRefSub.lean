/- The reference's parts of lists: Between, Head; plain, and their walks. -/
import Derived.Test.YtbjmblfifnjafaaRefNear
import Derived.Test.YtbjmblfifnjafaaSlotsAid
import Derived.Laws.OwnMore
import Derived.Laws.AppendOwnNone
set_option linter.unusedVariables false
set_option linter.unusedSimpArgs false
namespace Go.Proofs.Ytbjmblfifnjafaa
open Go.RowKit
def betE (l : List En) (lo hi : Int) : List En := l.filter fun e => decide (lo ≤ e.key ∧ e.key ≤ hi)
theorem filt_succ {l : List En} {j : Nat} {e : En} (h : l[j]? = some e) (p : En → Bool) : (l.take (j + 1)).filter p = (l.take j).filter p ++ (if p e = true then [e] else []) := by
  obtain ⟨hj, he⟩ := List.getElem?_eq_some_iff.1 h
  rw [List.take_succ_eq_append_getElem hj, List.filter_append, he]
  congr 1
  cases hp : p e <;> simp [hp]
/-- a row of entries while it is gathered -/
def SubRel (w : World) (g : Nat → List En) (n : Nat) (x i : Value) (wr : World) : Prop :=
  ∃ j : Nat, i = .int .i64 (j : Int) ∧ j ≤ n ∧ ESt w.heap.size w (g j) x wr
theorem SubRel.start (w : World) (g : Nat → List En) (n : Nat) (hg : g 0 = []) : SubRel w g n (.slice none 0 0) (.int .i64 0) w := ⟨0, rfl, Nat.zero_le _, by rw [hg]; exact ESt.start w rfl⟩
theorem ESt.made {w w' : World} {l : List En} {v : Value} (h : ESt w.heap.size w l v w') : MadeEns w l (.returned v) w' := by
  obtain ⟨a, c, rfl⟩ := h.val
  exact ⟨a, c, rfl, h.row, h.below⟩
set_option maxHeartbeats 2000000 in
set_option maxRecDepth 100000 in
theorem between_any {w : World} {a : Option Addr} {n c : Nat} {l : List En} (lo hi : Int) (h : EnsAt w a l) (hn : l.length = n) (hl : n ≤ 1000000) :
    Calls Try.prog 20 #[.slice a n c, .int .i64 lo, .int .i64 hi] w (MadeEns w (betE l lo hi)) := by
  have HE := Lib.hid h
  have HN := Lib.hid hn
  have hni : (n : Int) ≤ 1000000 := by omega
  have HL := Lib.hid hl
  have HLEN : Hid (∀ j, (betE (l.take j) lo hi).length ≤ 1000000) := fun j => by
    have h1 := List.length_filter_le (fun e : En => decide (lo ≤ e.key ∧ e.key ≤ hi)) (l.take j)
    have h2 := List.length_take_le' j l
    show ((l.take j).filter _).length ≤ _
    omega
  have HS : Hid (∀ j e, l[j]? = some e → betE (l.take (j + 1)) lo hi = betE (l.take j) lo hi ++ (if lo ≤ e.key ∧ e.key ≤ hi then [e] else [])) := fun j e he => by
    have := filt_succ he fun e : En => decide (lo ≤ e.key ∧ e.key ≤ hi)
    simp only [decide_eq_true_eq] at this
    exact this
  have HLENB : Hid (∀ j, (betE (l.take j) lo hi).length ≤ 100000000) := fun j => Nat.le_trans (HLEN.out j) (by decide)
  have HR0 := Lib.hid (SubRel.start w (fun j => betE (l.take j) lo hi) n (by simp [betE]))
  clear h hn hl
  go_enter Try.func20, Try.ntmps20
  go_wp2_with fail
  go_loopw [7, 8] (fun x i wr => SubRel w (fun j => betE (l.take j) lo hi) n x i wr) (fun _ i _ => n - (intOf i).toNat)
  case atStart => exact HR0.out
  case round =>
    clear HR0
    obtain ⟨j, rfl, hj, hst⟩ := hrel
    replace hst : ESt w.heap.size w (betE (l.take j) lo hi) _ wr := hst
    have HST := Lib.hid hst
    have hj0 : (0 : Int) ≤ (j : Int) := by omega
    obtain ⟨xa, xc, rfl⟩ := hst.val
    clear hst
    by_cases hlt : j < n
    · have hji : (j : Int) < (n : Int) := by omega
      obtain ⟨e, he⟩ : ∃ e, l[j]? = some e := ⟨_, List.getElem?_eq_getElem (by have := HN.out; omega)⟩
      obtain ⟨b, off, rfl, hb, c0, c1⟩ := (HE.out.below HST.out.below).at he
      have hs := HS.out j e he
      have HX := Lib.hid hs
      have HLT := Lib.hid hlt
      clear hs he hb hlt hj
      by_cases h1 : lo ≤ e.key
      · have d1 : decide (lo ≤ e.key) = true := decide_eq_true h1
        by_cases h2 : e.key ≤ hi
        · have d2 : decide (e.key ≤ hi) = true := decide_eq_true h2
          have HY : Hid (betE (l.take (j + 1)) lo hi = betE (l.take j) lo hi ++ [e]) := by show _ = _; rw [HX.out, if_pos ⟨h1, h2⟩]
          clear h1 h2
          go_wp2_with (at_builtin; refine wpList_append_en rfl (.tmp 31) (.tmp 36) rfl (HST.out.from (below_newL _ _) rfl) rfl rfl e wr.heap.size rfl (cell_newE _ _ _) (HLENB.out j) ?_; intro v5 w5 hc5)
          exact ⟨⟨j + 1, by go_num, by have := HLT.out; omega, by show ESt _ _ (betE (l.take (j + 1)) lo hi) _ _; rw [HY.out]; exact hc5⟩, by have := HLT.out; simp [intOf]; omega⟩
        · have d2 : decide (e.key ≤ hi) = false := decide_eq_false h2
          have HY : Hid (betE (l.take (j + 1)) lo hi = betE (l.take j) lo hi) := by show _ = _; rw [HX.out, if_neg (fun h => h2 h.2), List.append_nil]
          clear h1 h2
          go_wp2_with fail
          exact ⟨⟨j + 1, by go_num, by have := HLT.out; omega, by show ESt _ _ (betE (l.take (j + 1)) lo hi) _ _; rw [HY.out]; exact HST.out⟩, by have := HLT.out; simp [intOf]; omega⟩
      · have d1 : decide (lo ≤ e.key) = false := decide_eq_false h1
        have HY : Hid (betE (l.take (j + 1)) lo hi = betE (l.take j) lo hi) := by show _ = _; rw [HX.out, if_neg (fun h => h1 h.1), List.append_nil]
        clear h1
        go_wp2_with fail
        exact ⟨⟨j + 1, by go_num, by have := HLT.out; omega, by show ESt _ _ (betE (l.take (j + 1)) lo hi) _ _; rw [HY.out]; exact HST.out⟩, by have := HLT.out; simp [intOf]; omega⟩
    · have hji : ¬ (j : Int) < (n : Int) := by omega
      have HK : Hid (betE (l.take j) lo hi = betE l lo hi) := by show _ = _; rw [List.take_of_length_le (by have := HN.out; omega)]
      clear hj hlt
      go_wp2_with fail
      go_ret
      rw [← HK.out]
      first
        | exact HST.out.made
        | (have := HST.out.made; simp only [List.length_take] at this; exact this)
set_option maxHeartbeats 2000000 in
set_option maxRecDepth 100000 in
theorem head_any {w : World} {a : Option Addr} {n c : Nat} {l : List En} (m : Int) (h : EnsAt w a l) (hn : l.length = n) (hl : n ≤ 1000000) :
    Calls Try.prog 24 #[.slice a n c, .int .i64 m] w (MadeEns w (l.take m.toNat)) := by
  have HE := Lib.hid h
  have HN := Lib.hid hn
  have hni : (n : Int) ≤ 1000000 := by omega
  have HL := Lib.hid hl
  have HLEN : Hid (∀ j, (l.take j).length ≤ 1000000) := fun j => by
    have h2 := List.length_take_le' j l
    show (l.take j).length ≤ _
    omega
  have HLENB : Hid (∀ j, (l.take j).length ≤ 100000000) := fun j => Nat.le_trans (HLEN.out j) (by decide)
  have HR0 : Hid (∃ j : Nat, (Value.int .i64 0) = .int .i64 (j : Int) ∧ j ≤ n ∧ ((j : Int) ≤ m ∨ j = 0) ∧ ESt w.heap.size w (l.take j) (.slice none 0 0) w) := ⟨0, rfl, Nat.zero_le _, .inr rfl, by simp; exact ESt.start w rfl⟩
  clear h hn hl
  go_enter Try.func24, Try.ntmps24
  go_wp2_with fail
  go_loopw [5, 6] (fun x i wr => ∃ j : Nat, i = .int .i64 (j : Int) ∧ j ≤ n ∧ ((j : Int) ≤ m ∨ j = 0) ∧ ESt w.heap.size w (l.take j) x wr) (fun _ i _ => n - (intOf i).toNat)
  case atStart => exact HR0.out
  case round =>
    clear HR0
    obtain ⟨j, rfl, hj, hjm, hst⟩ := hrel
    have HST := Lib.hid hst
    have hj0 : (0 : Int) ≤ (j : Int) := by omega
    have HM := Lib.hid hjm
    obtain ⟨xa, xc, rfl⟩ := hst.val
    clear hst
    by_cases hlt : j < n
    · have hji : (j : Int) < (n : Int) := by omega
      by_cases hm : (j : Int) < m
      · have hmd : decide ((j : Int) < m) = true := decide_eq_true hm
        obtain ⟨e, he⟩ : ∃ e, l[j]? = some e := ⟨_, List.getElem?_eq_getElem (by have := HN.out; omega)⟩
        obtain ⟨b, off, rfl, hb, c0, c1⟩ := (HE.out.below HST.out.below).at he
        have HY : Hid (l.take (j + 1) = l.take j ++ [e]) := by
          obtain ⟨h1, h2⟩ := List.getElem?_eq_some_iff.1 he
          show _ = _
          rw [List.take_succ_eq_append_getElem h1, h2]
        have HLT : Hid (j < n ∧ (j : Int) < m) := ⟨hlt, hm⟩
        clear he hb hlt hj hjm
        go_wp2_with (at_builtin; refine wpList_append_en rfl (.tmp 18) (.tmp 23) rfl (HST.out.from (below_newL _ _) rfl) rfl rfl e wr.heap.size rfl (cell_newE _ _ _) (HLENB.out j) ?_; intro v5 w5 hc5)
        exact ⟨⟨j + 1, by go_num, by have := HLT.out; omega, .inl (by have := HLT.out; omega), by rw [HY.out]; exact hc5⟩, by have := HLT.out; simp [intOf]; omega⟩
      · have hmd : decide ((j : Int) < m) = false := decide_eq_false hm
        have HK : Hid (l.take j = l.take m.toNat) := by
          show _ = _
          rw [show m.toNat = j by omega]
        clear hj hlt hm hjm
        go_wp2_with fail
        go_ret
        rw [← HK.out]
        first
        | exact HST.out.made
        | (have := HST.out.made; simp only [List.length_take] at this; exact this)
    · have hji : ¬ (j : Int) < (n : Int) := by omega
      have HK : Hid (l.take j = l.take m.toNat) := by
        show _ = _
        have h1 := HN.out
        rcases hjm with h | h
        · rw [List.take_of_length_le (by omega), List.take_of_length_le (by omega)]
        · have h3 : l = [] := List.eq_nil_of_length_eq_zero (by omega)
          rw [h3]; simp
      clear hj hlt hjm
      go_wp2_with fail
      go_ret
      rw [← HK.out]
      first
        | exact HST.out.made
        | (have := HST.out.made; simp only [List.length_take] at this; exact this)
theorem ensV_app (l m : List En) : ensV (l ++ m) = ensV l ++ ensV m := by simp [ensV]
theorem ensV_ones (l : List En) : ∀ u ∈ ensV l, u.oneCell' = true := by
  intro u hu
  obtain ⟨e, he, h⟩ := List.mem_flatMap.1 hu
  exact en_one e u h
theorem add_atE (b off j : Nat) : (⟨b, off, none⟩ : Addr).add j = ⟨b, off + j, none⟩ := by simp [Addr.add]
theorem EnsAt.cellV {w : World} {x0 : Addr} {l : List En} (h : EnsAt w (some x0) l) : ∀ j u, (ensV l)[j]? = some u → w.cell? (x0.add j) = some u := by
  intro j u hu
  have hj : j < l.length * 2 := by have := (List.getElem?_eq_some_iff.1 hu).1; rwa [ensV_len] at this
  have hi : j / 2 < l.length := by omega
  have he : l[j / 2]? = some l[j / 2] := List.getElem?_eq_getElem hi
  obtain ⟨b, off, hb, _, h1, h2⟩ := h.cell (j / 2) _ he
  simp only [Option.some.injEq] at hb
  subst hb
  rw [add_atE]
  have hk : j % 2 < 2 := Nat.mod_lt _ (by decide)
  have hv := ensV_at l (j / 2) (j % 2) _ he hk
  rw [show j / 2 * 2 + j % 2 = j by omega, hu] at hv
  rcases Nat.lt_or_ge (j % 2) 1 with h0 | h0
  · rw [show off + j = off + j / 2 * 2 by omega, h1]
    rw [show j % 2 = 0 by omega] at hv
    exact hv.symm
  · rw [show off + j = off + j / 2 * 2 + 1 by omega, h2]
    rw [show j % 2 = 1 by omega] at hv
    exact hv.symm
/-- append of a slice of entries to a row of the call's own -/
theorem wpList_append_ens {ops : Array Oper} {rest : List Oper} {o : Oper} {a : Act} {w w2 : World} {Q : Exit → Act → World → Prop} {Z : Nat} {l0 l : List En} {v : Value} (hgd : o.guard = none) (s x : Operand)
    (ho : o.op = .call { callee := .builtin .append, args := #[s, x], argTypes := #[22, 22] })
    (hc : ESt Z w2 l0 v w) (hZ : w2.heap.size = Z) (hs : a.eval s = v) (ad : Option Addr) (c m : Nat) (hm : l.length = m) (hx : a.eval x = .slice ad m c) (hrow : EnsAt w ad l) (hl : l0.length + m ≤ 100000000)
    (h : ∀ v' w', ESt Z w2 (l0 ++ l) v' w' → wpList Try.prog ops Q rest (a.put o.dst v') w') : wpList Try.prog ops Q (o :: rest) a w := by
  obtain ⟨i, ji, jz0, jz1, jz2⟩ := info_parts enInfo
  subst hm
  cases ad with
  | some x0 =>
    refine wpList_append_own _ hgd s x 22 ho Z 49 i (.agg #[.int .i64 0, .int .i64 0]) 2 16 Try.underlying22 ji jz0 jz1 jz2 rfl (by decide) v l0.length (ensV l0) hs hc.row x0 l.length c (ensV l) hx (ensV_len l) hrow.cellV (ensV_ones l) (by unfold maxLen; omega) (by omega) (by have := hc.below.size; omega) ?_
    intro v' w' ho' hg _
    refine h v' w' ?_
    obtain ⟨a', c', hv⟩ := row_val ho'
    refine ⟨⟨a', c', by rw [List.length_append]; exact hv⟩, ?_, hc.below.grown hg (by have := hc.below.size; omega) (row_from hc.row)⟩
    rw [List.length_append, ensV_app]
    exact ho'
  | none =>
    have hl0 : l = [] := by
      cases l with
      | nil => rfl
      | cons y t => obtain ⟨_, _, hb, _⟩ := hrow.cell 0 y rfl; cases hb
    subst hl0
    refine wpList_plain hgd fun K hK => ?_
    have hK2 := hK _ _ (h v w (by rw [List.append_nil]; exact hc))
    unfold Oper.wp
    simp only [List.length_nil] at hx
    have hc0 : ∀ c', (Builtin.append_ #[22, 22] o.type #[v, .slice none 0 c']).run Try.prog w = .ok v w := fun c' => by
      refine Eq.trans ?_ (run_append_owned_none (P := Try.prog) (w := w) Z 22 o.type 49 i 2 Try.underlying22 ji v l0.length (ensV l0) hc.row)
      rfl
    simp [execOp, ho, resolve, invoke, builtin, hs, hx, hc0, Result.andThen]
    exact hK2
end Go.Proofs.Ytbjmblfifnjafaa
