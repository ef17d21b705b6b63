/- Of the proof of UUpdateSequenceP: Scene, RefSub, RefOut, UpCon, UpSeqA, DumpIn, UpSeqIn, LawUpDel, LawUpSeq. -/
import Derived.Test.YtckkmmdibgoajaaU1
import Derived.Test.YtckkmmdibgoajaaU2
import Derived.Test.YtckkmmdibgoajaaU3
import Derived.Test.YtckkmmdibgoajaaU4
import Derived.Test.YtckkmmdibgoajaaU5
import Derived.Test.YtckkmmdibgoajaaU6
import Derived.Test.YtckkmmdibgoajaaU10
import Derived.Test.YtckkmmdibgoajaaU11
import Derived.Test.YtckkmmdibgoajaaU12
import Derived.Test.YtckkmmdibgoajaaU13
import Derived.Test.YtckkmmdibgoajaaU16
import Derived.Laws.OwnMore
import Derived.Laws.AppendOwnNone
import Derived.Deep.RegionHeldLaw
import Derived.Deep.RegionHeld3
import Derived.Deep.QuietTactic
import Derived.Deep.DeepCutAuto
import Derived.Maps.AppendAt
set_option linter.unusedVariables false
set_option linter.unusedSimpArgs false
namespace Go.Proofs.Ytckkmmdibgoajaa
open Go.RowKit
section
variable {I : AImpl} {B : Nat} {w0 w w' : World} {p : Value} {A : Ar} {rd rd' : Int} {rs : List Row} {bs : List (Nat × Obj)}
/-- the first row grew by an append -/
theorem Scn.grew {e : TypeId} {s n n' : Nat} {v v' : Value} {xs xs' : List Value} (h : Scn I B w0 w p A rd (⟨e, s, v, n, xs⟩ :: rs) bs) (hr : w'.ownsRow B e s v' n' xs') (hg : w.grownBy w' v.ownBlock) (hv : v'.ownBlock = v.ownBlock ∨ v'.ownBlock = some w.heap.size) :
    Scn I B w0 w' p A rd (⟨e, s, v', n', xs'⟩ :: rs) bs := by
  obtain ⟨h1, h2⟩ := List.pairwise_cons.1 h.rr
  obtain ⟨F, f1, f2, f3⟩ := h.mr.has
  have hne : ∀ k, SG rs bs k → v.ownBlock ≠ some k := fun k hk e' => by
    rcases hk with ⟨r, hr', hk⟩ | ⟨b, hb', rfl⟩
    · exact h1 r hr' k e' hk
    · exact h.rb ⟨e, s, v, n, xs⟩ (by simp) b hb' e'
  have hkeep : ∀ k, SG rs bs k → w'.heap[k]? = w.heap[k]? := fun k hk => hg.block k (h.lt (by
    rcases hk with ⟨r, hr', hk⟩ | hk
    · exact .inl ⟨r, by simp [hr'], hk⟩
    · exact .inr hk)) fun e' => hne k hk e'.symm
  have hnew : ∀ k, v'.ownBlock = some k → v.ownBlock = some k ∨ k = w.heap.size := fun k hk => by
    rcases hv with e' | e'
    · exact .inl (e' ▸ hk)
    · rw [e'] at hk; exact .inr (Option.some.inj hk).symm
  refine ⟨⟨⟨F, I.keep f1 fun k hk => hg.block k (I.dom f1 k hk) fun e' => (f3 k (.inl ⟨⟨e, s, v, n, xs⟩, by simp, e'.symm⟩)).2 hk, f2, fun k hk => ?_⟩, h.mr.below.grown hg h.mr.hB (row_from (h.rows ⟨e, s, v, n, xs⟩ (by simp))), Nat.le_trans h.mr.hB hg.size⟩, fun r hr' => ?_, fun b hb' => ?_, List.pairwise_cons.2 ⟨fun r hr' k hk e' => ?_, h2⟩, h.bb, fun r hr' b hb' => ?_⟩
  · rcases hk with ⟨r, hr', hk⟩ | hk
    · rcases List.mem_cons.1 hr' with rfl | hr'
      · refine ⟨(row_lt hr k hk).2, fun hF => ?_⟩
        rcases hnew k hk with h3 | rfl
        · exact (f3 k (.inl ⟨⟨e, s, v, n, xs⟩, by simp, h3⟩)).2 hF
        · exact Nat.lt_irrefl _ (I.dom f1 _ hF)
      · have := f3 k (.inl ⟨r, by simp [hr'], hk⟩)
        exact ⟨Nat.lt_of_lt_of_le this.1 hg.size, this.2⟩
    · have := f3 k (.inr hk)
      exact ⟨Nat.lt_of_lt_of_le this.1 hg.size, this.2⟩
  · rcases List.mem_cons.1 hr' with rfl | hr'
    · exact hr
    · exact row_keep (h.rows r (by simp [hr'])) fun k hk => hkeep k (.inl ⟨r, hr', hk⟩)
  · exact ⟨(h.boxes b hb').1, (hkeep b.1 (.inr ⟨b, hb', rfl⟩)).trans (h.boxes b hb').2⟩
  · rcases hnew k hk with h3 | rfl
    · exact h1 r hr' k h3 e'
    · have := h.lt (.inl ⟨r, by simp [hr'], e'⟩)
      exact Nat.lt_irrefl _ this
  · rcases List.mem_cons.1 hr' with rfl | hr'
    · intro e'
      rcases hnew _ e' with h3 | h3
      · exact h.rb ⟨e, s, v, n, xs⟩ (by simp) b hb' h3
      · have := h.lt (.inr ⟨b, hb', rfl⟩)
        omega
    · exact h.rb r (by simp [hr']) b hb'
end
end Go.Proofs.Ytckkmmdibgoajaa
set_option linter.unusedVariables false
set_option linter.unusedSimpArgs false
namespace Go.Proofs.Ytckkmmdibgoajaa
open Go.RowKit
theorem filt_succ {l : List En} {j : Nat} {e : En} (h : l[j]? = some e) (p : En → Bool) : (l.take (j + 1)).filter p = (l.take j).filter p ++ (if p e = true then [e] else []) := by
  obtain ⟨hj, he⟩ := List.getElem?_eq_some_iff.1 h
  rw [List.take_succ_eq_append_getElem hj, List.filter_append, he]
  congr 1
  cases hp : p e <;> simp [hp]
/-- a row of entries while it is gathered -/
def SubRel (w : World) (g : Nat → List En) (n : Nat) (x i : Value) (wr : World) : Prop :=
  ∃ j : Nat, i = .int .i64 (j : Int) ∧ j ≤ n ∧ ESt w.heap.size w (g j) x wr
theorem SubRel.start (w : World) (g : Nat → List En) (n : Nat) (hg : g 0 = []) : SubRel w g n (.slice none 0 0) (.int .i64 0) w := ⟨0, rfl, Nat.zero_le _, by rw [hg]; exact ESt.start w rfl⟩
theorem ESt.made {w w' : World} {l : List En} {v : Value} (h : ESt w.heap.size w l v w') : MadeEns w l (.returned v) w' := by
  obtain ⟨a, c, rfl⟩ := h.val
  exact ⟨a, c, rfl, h.row, h.below⟩
end Go.Proofs.Ytckkmmdibgoajaa
set_option linter.unusedVariables false
set_option linter.unusedSimpArgs false
namespace Go.Proofs.Ytckkmmdibgoajaa
open Go.RowKit
set_option maxHeartbeats 2000000 in
set_option maxRecDepth 100000 in
theorem outside_any {w : World} {a : Option Addr} {n c : Nat} {l : List En} (lo hi : Int) (h : EnsAt w a l) (hn : l.length = n) (hl : n ≤ 1000000) :
    Calls Try.prog 48 #[.slice a n c, .int .i64 lo, .int .i64 hi] w (MadeEns w (outE l lo hi)) := by
  have HE := Lib.hid h
  have HN := Lib.hid hn
  have hni : (n : Int) ≤ 1000000 := by omega
  have HL := Lib.hid hl
  have HLEN : Hid (∀ j, (outE (l.take j) lo hi).length ≤ 1000000) := fun j => by
    have h1 := List.length_filter_le (fun e : En => decide (e.key < lo ∨ hi < e.key)) (l.take j)
    have h2 := List.length_take_le' j l
    show ((l.take j).filter _).length ≤ _
    omega
  have HS : Hid (∀ j e, l[j]? = some e → outE (l.take (j + 1)) lo hi = outE (l.take j) lo hi ++ (if e.key < lo ∨ hi < e.key then [e] else [])) := fun j e he => by
    have := filt_succ he fun e : En => decide (e.key < lo ∨ hi < e.key)
    simp only [decide_eq_true_eq] at this
    exact this
  have HLENB : Hid (∀ j, (outE (l.take j) lo hi).length ≤ 100000000) := fun j => Nat.le_trans (HLEN.out j) (by decide)
  have HR0 := Lib.hid (SubRel.start w (fun j => outE (l.take j) lo hi) n (by simp [outE]))
  clear h hn hl
  go_enter Try.func48, Try.ntmps48
  go_wp2_with fail
  go_loopw [7, 8] (fun x i wr => SubRel w (fun j => outE (l.take j) lo hi) n x i wr) (fun _ i _ => n - (intOf i).toNat)
  case atStart => exact HR0.out
  case round =>
    clear HR0
    obtain ⟨j, rfl, hj, hst⟩ := hrel
    replace hst : ESt w.heap.size w (outE (l.take j) lo hi) _ wr := hst
    have HST := Lib.hid hst
    have hj0 : (0 : Int) ≤ (j : Int) := by omega
    obtain ⟨xa, xc, rfl⟩ := hst.val
    clear hst
    by_cases hlt : j < n
    · have hji : (j : Int) < (n : Int) := by omega
      obtain ⟨e, he⟩ : ∃ e, l[j]? = some e := ⟨_, List.getElem?_eq_getElem (by have := HN.out; omega)⟩
      obtain ⟨b, off, rfl, hb, c0, c1⟩ := (HE.out.below HST.out.below).at he
      have hs := HS.out j e he
      have HX := Lib.hid hs
      have HLT := Lib.hid hlt
      clear hs he hb hlt hj
      by_cases h1 : e.key < lo
      · have d1 : decide (e.key < lo) = true := decide_eq_true h1
        have HY : Hid (outE (l.take (j + 1)) lo hi = outE (l.take j) lo hi ++ [e]) := by show _ = _; rw [HX.out, if_pos (.inl h1)]
        clear h1
        go_wp2_with (at_builtin; refine wpList_append_en rfl (.tmp 31) (.tmp 36) rfl (HST.out.from (below_newL _ _) rfl) rfl rfl e wr.heap.size rfl (cell_newE _ _ _) (HLENB.out j) ?_; intro v5 w5 hc5)
        exact ⟨⟨j + 1, by go_num, by have := HLT.out; omega, by show ESt _ _ (outE (l.take (j + 1)) lo hi) _ _; rw [HY.out]; exact hc5⟩, by have := HLT.out; simp [intOf]; omega⟩
      · have d1 : decide (e.key < lo) = false := decide_eq_false h1
        by_cases h2 : hi < e.key
        · have d2 : decide (e.key > hi) = true := decide_eq_true h2
          have d3 : decide (hi < e.key) = true := decide_eq_true h2
          have HY : Hid (outE (l.take (j + 1)) lo hi = outE (l.take j) lo hi ++ [e]) := by show _ = _; rw [HX.out, if_pos (.inr h2)]
          clear h1 h2
          go_wp2_with (at_builtin; refine wpList_append_en rfl (.tmp 31) (.tmp 36) rfl (HST.out.from (below_newL _ _) rfl) rfl rfl e wr.heap.size rfl (cell_newE _ _ _) (HLENB.out j) ?_; intro v5 w5 hc5)
          exact ⟨⟨j + 1, by go_num, by have := HLT.out; omega, by show ESt _ _ (outE (l.take (j + 1)) lo hi) _ _; rw [HY.out]; exact hc5⟩, by have := HLT.out; simp [intOf]; omega⟩
        · have d2 : decide (e.key > hi) = false := decide_eq_false h2
          have d3 : decide (hi < e.key) = false := decide_eq_false h2
          have HY : Hid (outE (l.take (j + 1)) lo hi = outE (l.take j) lo hi) := by show _ = _; rw [HX.out, if_neg (fun h => h.elim h1 h2), List.append_nil]
          clear h1 h2
          go_wp2_with fail
          exact ⟨⟨j + 1, by go_num, by have := HLT.out; omega, by show ESt _ _ (outE (l.take (j + 1)) lo hi) _ _; rw [HY.out]; exact HST.out⟩, by have := HLT.out; simp [intOf]; omega⟩
    · have hji : ¬ (j : Int) < (n : Int) := by omega
      have HK : Hid (outE (l.take j) lo hi = outE l lo hi) := by show _ = _; rw [List.take_of_length_le (by have := HN.out; omega)]
      clear hj hlt
      go_wp2_with fail
      go_ret
      rw [← HK.out]
      first
        | exact HST.out.made
        | (have := HST.out.made; simp only [List.length_take] at this; exact this)
end Go.Proofs.Ytckkmmdibgoajaa
set_option linter.unusedVariables false
set_option linter.unusedSimpArgs false
namespace Go.Proofs.Ytckkmmdibgoajaa
open Go.RowKit
theorem out_up {l : List En} (h : Up l) (lo hi : Int) : Up (outE l lo hi) := List.Pairwise.filter _ h
theorem out_len (l : List En) (lo hi : Int) : (outE l lo hi).length ≤ l.length := List.length_filter_le _ _
end Go.Proofs.Ytckkmmdibgoajaa
set_option linter.unusedVariables false
set_option linter.unusedSimpArgs false
namespace Go.Proofs.Ytckkmmdibgoajaa
open Go.RowKit
structure Ed where
  del : Bool
  e : En
structure EditsAt (w : World) (a : Option Addr) (E : List Ed) : Prop where
  cell : ∀ j x, E[j]? = some x → ∃ b off, a = some ⟨b, off, none⟩ ∧ b < w.heap.size ∧ w.cell? ⟨b, off + j * 3, none⟩ = some (.bool x.del) ∧ w.cell? ⟨b, off + j * 3 + 1, none⟩ = some (.int .i64 x.e.key) ∧ w.cell? ⟨b, off + j * 3 + 2, none⟩ = some (.int .i64 x.e.val)
  wf : ∀ x ∈ E, i64R x.e.key ∧ i64R x.e.val
theorem EditsAt.below {w w' : World} {a : Option Addr} {E : List Ed} (h : EditsAt w a E) (hb : Below w.heap.size w w') : EditsAt w' a E := by
  refine ⟨fun j x hx => ?_, h.wf⟩
  obtain ⟨b, off, ha, hlt, h1, h2, h3⟩ := h.cell j x hx
  exact ⟨b, off, ha, Nat.lt_of_lt_of_le hlt hb.size, by rw [← h1]; exact hb.cell (p := ⟨b, off + j * 3, none⟩) hlt, by rw [← h2]; exact hb.cell (p := ⟨b, off + j * 3 + 1, none⟩) hlt, by rw [← h3]; exact hb.cell (p := ⟨b, off + j * 3 + 2, none⟩) hlt⟩
structure BoolsAt (w : World) (a : Option Addr) (bs : List Bool) : Prop where
  cell : ∀ j x, bs[j]? = some x → ∃ b off, a = some ⟨b, off, none⟩ ∧ b < w.heap.size ∧ w.cell? ⟨b, off + j, none⟩ = some (.bool x)
theorem BoolsAt.below {w w' : World} {a : Option Addr} {bs : List Bool} (h : BoolsAt w a bs) (hb : Below w.heap.size w w') : BoolsAt w' a bs := by
  refine ⟨fun j x hx => ?_⟩
  obtain ⟨b, off, ha, hlt, h1⟩ := h.cell j x hx
  exact ⟨b, off, ha, Nat.lt_of_lt_of_le hlt hb.size, by rw [← h1]; exact hb.cell (p := ⟨b, off + j, none⟩) hlt⟩
theorem hof_perm {l m : List Nat} (h : l.Perm m) : hof l = hof m := by
  funext i
  unfold hof
  split
  · rfl
  · exact h.count_eq i
/-- what is still held keeps its tree when something else is released -/
theorem sub_gone {A : Ar} {r : Nat} {held : Nat → Nat} (hv : (A.gone r).Inv [] held) {i : Nat} {t : Tr} (h : Sub A i t) : (i = 0 ∨ (A.gone r).σ.on i = true) → Sub (A.gone r) i t := by
  induction h with
  | nil => exact fun _ => .nil
  | node i l r' h0 h1 hl hr ihl ihr =>
    intro hi
    have hon := hi.resolve_left h0
    have hnd : (A.gone r).nd i = A.nd i := (run_on A.fuel A [r] i hon).2
    have hc := hv.child i hon
    rw [hnd] at hc
    exact .node i l r' h0 hon (by rw [hnd]; exact ihl hc.1) (by rw [hnd]; exact ihr hc.2)
theorem ents_gone {A : Ar} {r : Nat} {held : Nat → Nat} (hv : (A.gone r).Inv [] held) {i : Nat} {t : Tr} (h : Sub (A.gone r) i t) : t.ents (A.gone r).nd = t.ents A.nd := by
  induction h with
  | nil => rfl
  | node i l r' h0 h1 hl hr ihl ihr =>
    have hnd : (A.gone r).nd i = A.nd i := (run_on A.fuel A [r] i h1).2
    rw [Tr.ents_node, Tr.ents_node, ihl, ihr, hnd]
theorem TreeAt.gone {A : Ar} {r i : Nat} {t : Tr} {l : List En} {held : Nat → Nat} (h : TreeAt A i t l) (hv : (A.gone r).Inv [] held) (hg : (A.gone r).Agg) (hi : i = 0 ∨ 0 < held i) : TreeAt (A.gone r) i t l := by
  have hs := sub_gone hv h.sub (hi.imp_right (hv.held i))
  exact ⟨⟨_, hv⟩, hg, hs, h.bal, (ents_gone hv hs).trans h.ents, h.up⟩
structure Kd where
  i : Nat
  t : Tr
  l : List En
  v : Value
structure Kd.Ok (A : Ar) (RS : List Row) (d : Kd) : Prop where
  tree : TreeAt A d.i d.t d.l
  len : d.l.length ≤ 60
  wf : WfL d.l
  val : ∃ a c, d.v = .slice a d.l.length c
  row : (⟨31, 2, d.v, d.l.length, ensV d.l⟩ : Row) ∈ RS
theorem Kd.Ok.more {A : Ar} {RS : List Row} {d : Kd} (h : d.Ok A RS) (r : Row) : d.Ok A (r :: RS) := ⟨h.tree, h.len, h.wf, h.val, List.mem_cons_of_mem _ h.row⟩
theorem Kd.Ok.kept {A B : Ar} {RS : List Row} {d : Kd} {held : Nat → Nat} (h : d.Ok A RS) (hk : A.Kept B) (hB : B.Inv [] held) (hg : B.Agg) : d.Ok B RS := ⟨h.tree.kept hk hB hg, h.len, h.wf, h.val, h.row⟩
theorem Kd.Ok.gone {A : Ar} {RS : List Row} {d : Kd} {r : Nat} {held : Nat → Nat} (h : d.Ok A RS) (hv : (A.gone r).Inv [] held) (hg : (A.gone r).Agg) (hi : d.i = 0 ∨ 0 < held d.i) : d.Ok (A.gone r) RS := ⟨h.tree.gone hv hg hi, h.len, h.wf, h.val, h.row⟩
def ki (KL : List Kd) : List Nat := KL.map (·.i)
def kv (KL : List Kd) : List Value := KL.map (·.v)
/-- the versions that are kept, and the current one -/
structure Vers (A : Ar) (RS : List Row) (KL : List Kd) (cur : Kd) : Prop where
  kept : ∀ d ∈ KL, d.Ok A RS
  top : cur.Ok A RS
  inv : A.Inv [] (hof (cur.i :: ki KL))
  agg : A.Agg
  cap : A.σ.cap = 4000
  n : KL.length ≤ 60
theorem sum_le60 : ∀ {ts : List Tr}, (∀ t ∈ ts, t.size ≤ 60) → (ts.map Tr.size).sum ≤ 60 * ts.length
  | [], _ => Nat.le_refl _
  | t :: s, h => by
    have h1 := sum_le60 (ts := s) fun x hx => h x (by simp [hx])
    have h2 := h t (by simp)
    simp only [List.map_cons, List.sum_cons, List.length_cons]
    omega
theorem Vers.free {A : Ar} {RS : List Row} {KL : List Kd} {cur : Kd} (h : Vers A RS KL cur) : 340 ≤ A.σ.free.length := by
  have h1 := h.inv.used h.agg (ts := cur.t :: KL.map (·.t)) (fun x hx => by
    rcases List.mem_cons.1 hx with rfl | hx
    · exact ⟨cur.t, by simp, h.top.tree.sub⟩
    · obtain ⟨d, hd, rfl⟩ := List.mem_map.1 hx
      exact ⟨d.t, List.mem_cons_of_mem _ (List.mem_map.2 ⟨d, hd, rfl⟩), (h.kept d hd).tree.sub⟩)
  have h2 := sum_le60 (ts := cur.t :: KL.map (·.t)) (fun t ht => by
    rcases List.mem_cons.1 ht with rfl | ht
    · rw [h.top.tree.size]; exact h.top.len
    · obtain ⟨d, hd, rfl⟩ := List.mem_map.1 ht
      rw [(h.kept d hd).tree.size]; exact (h.kept d hd).len)
  have h3 := h.n
  have h4 := h.cap
  simp only [List.length_cons, List.length_map] at h2
  omega
/-- a new version; the old one is kept -/
theorem Vers.keep {A B : Ar} {RS : List Row} {KL : List Kd} {cur : Kd} {nx : Kd} (h : Vers A RS KL cur) (hg : Got A (hof (cur.i :: ki KL)) B nx.i nx.t nx.l) (hu : Up nx.l) (hl : nx.l.length ≤ 60) (hw : WfL nx.l) (hv : ∃ a c, nx.v = .slice a nx.l.length c) (hr : (⟨31, 2, nx.v, nx.l.length, ensV nx.l⟩ : Row) ∈ RS) (hn : KL.length + 1 ≤ 60) : Vers B RS (KL ++ [cur]) nx := by
  refine ⟨fun d hd => ?_, ⟨hg.tree hu, hl, hw, hv, hr⟩, ?_, hg.agg, hg.kept.cap.trans h.cap, by simp; omega⟩
  · rcases List.mem_append.1 hd with hd | hd
    · exact (h.kept d hd).kept hg.kept hg.inv hg.agg
    · simp at hd
      subst hd
      exact h.top.kept hg.kept hg.inv hg.agg
  · have := hg.inv
    rw [hof_pls] at this
    rw [show hof (nx.i :: ki (KL ++ [cur])) = hof (cur.i :: ki KL ++ [nx.i]) from hof_perm (by
      unfold ki
      rw [List.map_append]
      exact (List.perm_append_comm (l₁ := [nx.i]) (l₂ := List.map (·.i) KL ++ [cur.i])).trans ((List.perm_append_comm (l₁ := List.map (·.i) KL) (l₂ := [cur.i])).append_right [nx.i]))]
    exact this
/-- a new version; the old one is released -/
theorem Vers.drop {A B : Ar} {RS : List Row} {KL : List Kd} {cur : Kd} {nx : Kd} (h : Vers A RS KL cur) (hg : Got A (hof (cur.i :: ki KL)) B nx.i nx.t nx.l) (hu : Up nx.l) (hl : nx.l.length ≤ 60) (hw : WfL nx.l) (hv : ∃ a c, nx.v = .slice a nx.l.length c) (hr : (⟨31, 2, nx.v, nx.l.length, ensV nx.l⟩ : Row) ∈ RS)
    (hi : (B.gone cur.i).Inv [] (hof (ki KL ++ [nx.i]))) (ha : (B.gone cur.i).Agg) (hc : (B.gone cur.i).σ.cap = B.σ.cap) : Vers (B.gone cur.i) RS KL nx := by
  have hpos : ∀ x ∈ ki KL ++ [nx.i], x = 0 ∨ 0 < hof (ki KL ++ [nx.i]) x := fun x hx => by
    by_cases h0 : x = 0
    · exact .inl h0
    · exact .inr (hof_pos hx h0)
  refine ⟨fun d hd => ((h.kept d hd).kept hg.kept hg.inv hg.agg).gone hi ha (hpos d.i (List.mem_append_left _ (List.mem_map.2 ⟨d, hd, rfl⟩))), ⟨(hg.tree hu).gone hi ha (hpos nx.i (by simp)), hl, hw, hv, hr⟩, ?_, ha, hc.trans (hg.kept.cap.trans h.cap), h.n⟩
  rw [show hof (nx.i :: ki KL) = hof (ki KL ++ [nx.i]) from hof_perm (List.perm_append_comm (l₁ := [nx.i]) (l₂ := ki KL))]
  exact hi
/-- the released reference was the current version's -/
theorem Vers.give {A B : Ar} {RS : List Row} {KL : List Kd} {cur : Kd} {nx : Kd} (h : Vers A RS KL cur) (hg : Got A (hof (cur.i :: ki KL)) B nx.i nx.t nx.l) : B.Inv [] (hof (cur.i :: (ki KL ++ [nx.i]))) := by
  have := hg.inv
  rw [hof_pls] at this
  exact this
theorem Scn.release' {I : AImpl} {B : Nat} {w0 w : World} {p : Value} {A : Ar} {rd : Int} {rs : List Row} {bs : List (Nat × Obj)} (h : Scn I B w0 w p A rd rs bs) {i : Nat} {l : List Nat} (hv : A.Inv [] (hof (i :: l))) (ha : A.Agg) :
    Calls Try.prog 22 #[p, .int .u32 (i : Int)] w fun e w' => ∃ m : Nat, e = .returned (.tuple #[.int .i64 (m : Int), .int .i64 0]) ∧ (A.gone i).Inv [] (hof l) ∧ (A.gone i).Agg ∧ (A.gone i).σ.cap = A.σ.cap ∧ Scn I B w0 w' p (A.gone i) rd rs bs := by
  obtain ⟨F, f1, f2, f3⟩ := h.mr.has
  by_cases h0 : i = 0
  · subst h0
    refine (I.release p A rd F 0 (hof (0 :: l)) w f1 (by decide) (fun _ => hv.give0)).mono ?_
    rintro e w1 ⟨F', hal, _, h5⟩
    obtain ⟨rfl, h6⟩ := h5 (.inl rfl)
    have hst := h.mr.stepA f2 f3 hal h6
    have hh := hof_head 0 l
    rw [if_pos rfl] at hh
    refine ⟨A.freed 0, rfl, ?_, ?_, ?_, h.stepA hst.1 hst.2⟩
    · rw [(gone_zero A).1]; exact hh ▸ hv
    · rw [(gone_zero A).1]; exact ha
    · rw [(gone_zero A).1]
  · have hp : 0 < hof (i :: l) i := hof_pos (by simp) h0
    have hon := hv.held i hp
    have hi4 : i < 4294967296 := by have := hv.ok.on i hon; have := hv.ok.cap2; omega
    have hg := hv.give hp
    have hgo := Ar.gone_ok hg ha
    refine (I.release p A rd F i (Proofs.Ytckkmmdibgoajaa.less (hof (i :: l)) i) w f1 hi4 (fun _ => hg)).mono ?_
    rintro e w1 ⟨F', hal, _, h5⟩
    obtain ⟨rfl, h6⟩ := h5 (.inr hon)
    have hst := h.mr.stepA f2 f3 hal h6
    have hh := hof_head i l
    rw [if_neg h0] at hh
    exact ⟨A.freed i, rfl, hh ▸ hgo.1, hgo.2.1, hgo.2.2.1, h.stepA hst.1 hst.2⟩
theorem Scn.permR {I : AImpl} {B : Nat} {w0 w : World} {p : Value} {A : Ar} {rd : Int} {rs rs' : List Row} {bs : List (Nat × Obj)} (h : Scn I B w0 w p A rd rs bs) (hp : rs.Perm rs') : Scn I B w0 w p A rd rs' bs :=
  ⟨h.mr.less fun k hk => by (rcases hk with ⟨r, hr, hk⟩ | hk; exact .inl ⟨r, hp.mem_iff.2 hr, hk⟩; exact .inr hk), fun r hr => h.rows r (hp.mem_iff.2 hr), h.boxes, hp.pairwise h.rr (fun e k h1 h2 => e k h2 h1), h.bb, fun r hr b hb => h.rb r (hp.mem_iff.2 hr) b hb⟩
end Go.Proofs.Ytckkmmdibgoajaa
set_option linter.unusedVariables false
namespace Go.Proofs.Ytckkmmdibgoajaa
open Go.RowKit
open Go.Deep in
/-- the cells of every element of a slice of structs -/
theorem elems_in {H : Type} {enc : TypeId × Value → H} {P : Program} {W : World} {t e : TypeId} {C : Nat} {a : Option Addr} {n cap fuel : Nat} {x : DataW H × List MemPlace}
    (ht : P.underlying t = some (.slice e)) (hC : P.cellsOf e = C) (hC0 : 0 < C)
    (h : DataW.trod enc P W 0 (fun _ => true) true fuel t (Value.slice a n cap).cells.toList = some x) :
    n ≤ cap ∧ cap ≤ maxLen ∧ ∀ i, i < n → ∃ b off cs m y, a = some ⟨b, off, none⟩ ∧ b < W.heap.size ∧ cs.length = C ∧ (∀ j v, cs[j]? = some v → W.cell? ⟨b, off + i * C + j, none⟩ = some v) ∧ DataW.trod enc P W 0 (fun _ => true) true m e cs = some y := by
  rcases open_slice ht h with ⟨hcs, _⟩ | ⟨a', n', cap', m, k, D, Pl, hcs, _, hl, hm, hmm, _, hx⟩
  · simp [Value.cells] at hcs
    obtain ⟨rfl, rfl, rfl⟩ := hcs
    exact ⟨Nat.le_refl _, Nat.zero_le _, fun i hi => by omega⟩
  · simp [Value.cells] at hcs
    obtain ⟨rfl, rfl, rfl⟩ := hcs
    simp only [if_true] at hmm
    refine ⟨hl, hm, fun i hi => ?_⟩
    have cell : ∀ i, i < n → ∃ cs m y, cs.length = C ∧ (∀ j v, cs[j]? = some v → W.cell? (a'.add (i * C + j)) = some v) ∧ DataW.trod enc P W 0 (fun _ => true) true m e cs = some y := fun i hi => by
      obtain ⟨cs, h1, h2⟩ := hx i (by omega)
      rw [hC] at h1
      obtain ⟨_, hl2, hat⟩ := World.cells?_some h1
      refine ⟨cs, _, _, hl2, fun j v hj => ?_, h2⟩
      have hjl : j < C := by rw [← hl2]; exact (List.getElem?_eq_some_iff.1 hj).1
      have h4 := hat j hjl
      rw [hj, add_add] at h4
      exact h4
    obtain ⟨b, off, spot⟩ := a'
    have hspot : spot = none := by
      obtain ⟨cs, m, y, hlen, hc, _⟩ := cell 0 (by omega)
      have h3 := hc 0 (cs[0]'(by omega)) (List.getElem?_eq_getElem (by omega))
      simpa [Addr.add] using World.cell?_spot h3
    subst hspot
    obtain ⟨cs, m, y, hlen, hc, ht2⟩ := cell i hi
    have ea : ∀ j, (⟨b, off, none⟩ : Addr).add (i * C + j) = ⟨b, off + i * C + j, none⟩ := fun j => by unfold Addr.add; split <;> simp_all <;> omega
    have hc2 : ∀ j v, cs[j]? = some v → W.cell? ⟨b, off + i * C + j, none⟩ = some v := fun j v hj => by rw [← ea]; exact hc j v hj
    have h3 := hc2 0 (cs[0]'(by omega)) (List.getElem?_eq_getElem (by omega))
    exact ⟨b, off, cs, m, y, rfl, World.block_lt_of_cell? W _ h3, hlen, hc2, ht2⟩
end Go.Proofs.Ytckkmmdibgoajaa
set_option linter.unusedVariables false
set_option linter.unusedSimpArgs false
namespace Go.Proofs.Ytckkmmdibgoajaa
open Go.RowKit
theorem choose_list {α : Type} {Q : Nat → α → Prop} : ∀ n, (∀ j, j < n → ∃ x, Q j x) → ∃ l : List α, l.length = n ∧ ∀ j x, l[j]? = some x → Q j x
  | 0, _ => ⟨[], rfl, fun j x h => by simp at h⟩
  | n + 1, h => by
    obtain ⟨l, h1, h2⟩ := choose_list n fun j hj => h j (by omega)
    obtain ⟨x, hx⟩ := h n (by omega)
    refine ⟨l ++ [x], by simp [h1], fun j y hy => ?_⟩
    rcases Nat.lt_or_ge j n with hj | hj
    · exact h2 j y (by rwa [List.getElem?_append_left (by omega)] at hy)
    · have hjn : j = n := by
        have := (List.getElem?_eq_some_iff.1 hy).1
        simp at this
        omega
      have hz : j - l.length = 0 := by omega
      rw [List.getElem?_append_right (by omega), hz] at hy
      simp at hy
      rw [hjn, ← hy]
      exact hx
theorem bools_in {H : Type} {enc : TypeId × Value → H} {W : World} {a : Option Addr} {n cap fuel : Nat} {z : DataW H × List MemPlace}
    (h : DataW.trod enc Try.prog W 0 (fun _ => true) true fuel 48 (Value.slice a n cap).cells.toList = some z) : n ≤ cap ∧ cap ≤ maxLen ∧ ∃ bs : List Bool, bs.length = n ∧ BoolsAt W a bs := by
  obtain ⟨h1, h2, h3⟩ := elems_in (C := 1) Try.underlying48 (by kernel_rfl) (by decide) h
  obtain ⟨l, hl, hq⟩ := choose_list (Q := fun j x => ∃ b off, a = some ⟨b, off, none⟩ ∧ b < W.heap.size ∧ W.cell? ⟨b, off + j, none⟩ = some (.bool x)) n fun i hi => by
    obtain ⟨b, off, cs, m, y, ha, hb, _, hc, ht⟩ := h3 i hi
    obtain ⟨x, rfl, _⟩ := DataW.trod_bool Try.underlying4 ht
    have h4 := hc 0 _ rfl
    rw [Nat.mul_one, Nat.add_zero] at h4
    exact ⟨x, b, off, ha, hb, h4⟩
  exact ⟨h1, h2, l, hl, ⟨hq⟩⟩
theorem edit_in {H : Type} {enc : TypeId × Value → H} {W : World} {m : Nat} {cs : List Value} {y : DataW H × List MemPlace} (hlen : cs.length = 3) (h : DataW.trod enc Try.prog W 0 (fun _ => true) true m 53 cs = some y) :
    ∃ x : Ed, (i64R x.e.key ∧ i64R x.e.val) ∧ cs = [.bool x.del, .int .i64 x.e.key, .int .i64 x.e.val] := by
  obtain ⟨c0, c1, c2, rfl⟩ : ∃ c0 c1 c2, cs = [c0, c1, c2] := by
    match cs, hlen with
    | [a, b, c], _ => exact ⟨a, b, c, rfl⟩
  obtain ⟨xs, k1, _, _, _, hxl, hg⟩ := DataW.trod_struct Try.underlying53 h
  have e2 : Try.prog.cellsOf 31 = 2 := by kernel_rfl
  have e1 : Try.prog.cellsOf 4 = 1 := by kernel_rfl
  have g0 : DataW.trod enc Try.prog W 0 (fun _ => true) true k1 4 (([c0, c1, c2].drop 0).take (Try.prog.cellsOf 4)) = xs[0]? := hg 0 _ rfl
  have g1 : DataW.trod enc Try.prog W 0 (fun _ => true) true k1 31 (([c0, c1, c2].drop 1).take (Try.prog.cellsOf 31)) = xs[1]? := hg 1 _ rfl
  simp only [e2, e1, List.drop_zero, List.take_succ_cons, List.take_zero, List.drop_succ_cons] at g0 g1
  obtain ⟨x0, hx0⟩ : ∃ x, xs[0]? = some x := ⟨_, List.getElem?_eq_getElem (by rw [hxl]; decide)⟩
  obtain ⟨x1, hx1⟩ : ∃ x, xs[1]? = some x := ⟨_, List.getElem?_eq_getElem (by rw [hxl]; decide)⟩
  rw [hx0] at g0
  rw [hx1] at g1
  obtain ⟨d, hd, _⟩ := DataW.trod_bool Try.underlying4 g0
  obtain ⟨e, he, hce⟩ := en_in g1
  simp only [List.cons.injEq, and_true] at hd hce
  obtain ⟨rfl, rfl⟩ := hce
  subst hd
  exact ⟨⟨d, e⟩, he, rfl⟩
theorem edits_in {H : Type} {enc : TypeId × Value → H} {W : World} {a : Option Addr} {n cap fuel : Nat} {z : DataW H × List MemPlace}
    (h : DataW.trod enc Try.prog W 0 (fun _ => true) true fuel 47 (Value.slice a n cap).cells.toList = some z) : n ≤ cap ∧ cap ≤ maxLen ∧ ∃ E : List Ed, E.length = n ∧ EditsAt W a E := by
  obtain ⟨h1, h2, h3⟩ := elems_in (C := 3) Try.underlying47 (by kernel_rfl) (by decide) h
  obtain ⟨l, hl, hq⟩ := choose_list (Q := fun j (x : Ed) => (i64R x.e.key ∧ i64R x.e.val) ∧ ∃ b off, a = some ⟨b, off, none⟩ ∧ b < W.heap.size ∧ W.cell? ⟨b, off + j * 3, none⟩ = some (.bool x.del) ∧ W.cell? ⟨b, off + j * 3 + 1, none⟩ = some (.int .i64 x.e.key) ∧ W.cell? ⟨b, off + j * 3 + 2, none⟩ = some (.int .i64 x.e.val)) n fun i hi => by
    obtain ⟨b, off, cs, m, y, ha, hb, hlen, hc, ht⟩ := h3 i hi
    obtain ⟨x, hw, rfl⟩ := edit_in hlen ht
    exact ⟨x, hw, b, off, ha, hb, hc 0 _ rfl, hc 1 _ rfl, hc 2 _ rfl⟩
  refine ⟨h1, h2, l, hl, ⟨fun j x hx => (hq j x hx).2, fun x hx => ?_⟩⟩
  obtain ⟨j, hj⟩ := List.getElem?_of_mem hx
  exact (hq j x hj).1
end Go.Proofs.Ytckkmmdibgoajaa
set_option linter.unusedVariables false
set_option linter.unusedSimpArgs false
namespace Go.Proofs.Ytckkmmdibgoajaa
open Go.RowKit
set_option maxHeartbeats 1000000 in
set_option maxRecDepth 100000 in
theorem refDelete9_any {w : World} {a : Option Addr} {n c : Nat} {l : List En} (k : Int) (h : EnsAt w a l) (hn : l.length = n) (hl : n ≤ 1000000) :
    Calls Try.prog 20 #[.slice a n c, .int .i64 k] w (MadeEns w (outE l k k)) := by
  have HC := Lib.hid (outside_any (c := c) k k h hn hl)
  clear h hn hl
  go_enter Try.func20, Try.ntmps20
  go_wp2_with fail
  refine HC.out.mono ?_
  rintro e w1 ⟨xa, xc, rfl, hr, hb⟩
  have HR : Hid (MadeEns w (outE l k k) (.returned (.slice xa (outE l k k).length xc)) w1) := ⟨xa, xc, rfl, hr, hb⟩
  generalize (outE l k k).length = LN at HR ⊢
  clear hr hb
  go_wp2_with fail
  go_ret
  exact HR.out
end Go.Proofs.Ytckkmmdibgoajaa
set_option linter.unusedVariables false
set_option linter.unusedSimpArgs false
namespace Go.Proofs.Ytckkmmdibgoajaa
open Go.RowKit
theorem slInfo : (Try.prog.info? 22).map (fun i => (i.zero, i.size, i.bytes)) = some (some (.slice none 0 0), 1, 24) := by kernel_rfl
def SeqRel (I : AImpl) (w : World) (p : Value) (n : Nat) (s7 s8 s9 s10 s11 : Value) (wr : World) : Prop :=
  ∃ (k : Nat) (A : Ar) (rd : Int) (KL : List Kd) (top : Kd) (RS : List Row) (ka la : Option Addr) (kc lc : Nat),
    s7 = .int .u32 (top.i : Int) ∧ s8 = top.v ∧ s9 = .slice ka KL.length kc ∧ s10 = .slice la KL.length lc ∧ s11 = .int .i64 (k : Int) ∧ k ≤ n ∧ KL.length ≤ k ∧ top.l.length ≤ k ∧ 0 ≤ rd ∧ rd ≤ 5000 * (k : Int) ∧ Vers A RS KL top ∧
    Scn I w.heap.size w wr p A rd (⟨26, 1, .slice ka KL.length kc, KL.length, u32s (ki KL)⟩ :: ⟨22, 1, .slice la KL.length lc, KL.length, kv KL⟩ :: RS) []
theorem ki_len (KL : List Kd) : (ki KL).length = KL.length := by simp [ki]
theorem seq_small {KL : List Kd} {i : Nat} (h : KL.length ≤ 60) (j : Nat) : hof (i :: ki KL) j ≤ 1048000 := by
  have := hof_le (i :: ki KL) j
  rw [List.length_cons, ki_len] at this
  omega
theorem useq_idx {A : Ar} {l : List Nat} (h : A.Inv [] (hof l)) : ∀ y ∈ l, y < 4294967296 := fun y hy => by
  by_cases h0 : y = 0
  · omega
  · have h5 := h.held y (hof_pos hy h0)
    have := h.ok.on y h5; have := h.ok.cap2; omega
theorem u32s_one (l : List Nat) (i : Nat) : u32s (l ++ [i]) = u32s l ++ [.int .u32 (i : Int)] := by simp [u32s]
theorem Vers.moreR {A : Ar} {RS : List Row} {KL : List Kd} {cur : Kd} (h : Vers A RS KL cur) (r : Row) : Vers A (r :: RS) KL cur := ⟨fun d hd => (h.kept d hd).more r, h.top.more r, h.inv, h.agg, h.cap, h.n⟩
theorem seq_keep {A B : Ar} {RS : List Row} {KL : List Kd} {cur : Kd} {j NL : Nat} {u : Tr} {nl : List En} {xa : Option Addr} {xc : Nat} (hV : Vers A RS KL cur) (hg : Got A (hof (cur.i :: ki KL)) B j u nl) (hu : Up nl) (hw : WfL nl) (hNL : nl.length = NL) (hl : NL ≤ 60) (hn : KL.length + 1 ≤ 60) :
    Vers B (⟨31, 2, .slice xa NL xc, NL, ensV nl⟩ :: RS) (KL ++ [cur]) ⟨j, u, nl, .slice xa NL xc⟩ := by
  subst hNL
  exact (hV.moreR _).keep (nx := ⟨j, u, nl, .slice xa nl.length xc⟩) hg hu hl hw ⟨_, _, rfl⟩ (List.mem_cons_self ..) hn
theorem seq_drop {A B : Ar} {RS : List Row} {KL : List Kd} {cur : Kd} {j NL : Nat} {u : Tr} {nl : List En} {xa : Option Addr} {xc : Nat} (hV : Vers A RS KL cur) (hg : Got A (hof (cur.i :: ki KL)) B j u nl) (hu : Up nl) (hw : WfL nl) (hNL : nl.length = NL) (hl : NL ≤ 60)
    (hi : (B.gone cur.i).Inv [] (hof (ki KL ++ [j]))) (ha : (B.gone cur.i).Agg) (hc : (B.gone cur.i).σ.cap = B.σ.cap) :
    Vers (B.gone cur.i) (⟨31, 2, .slice xa NL xc, NL, ensV nl⟩ :: RS) KL ⟨j, u, nl, .slice xa NL xc⟩ := by
  subst hNL
  exact (hV.moreR _).drop (nx := ⟨j, u, nl, .slice xa nl.length xc⟩) hg hu hl hw ⟨_, _, rfl⟩ (List.mem_cons_self ..) hi ha hc
theorem SeqRel.push {I : AImpl} {w wr : World} {p : Value} {n k : Nat} {B : Ar} {RS : List Row} {KL : List Kd} {cur nx : Kd} {rd : Int} {ka la : Option Addr} {kc lc : Nat} (hv : Vers B RS (KL ++ [cur]) nx)
    (hs : Scn I w.heap.size w wr p B rd (⟨22, 1, .slice la (KL.length + 1) lc, KL.length + 1, kv KL ++ [cur.v]⟩ :: ⟨26, 1, .slice ka (KL.length + 1) kc, KL.length + 1, u32s (ki KL) ++ [.int .u32 (cur.i : Int)]⟩ :: RS) []) (hk : k + 1 ≤ n) (hkl : KL.length ≤ k) (htl : nx.l.length ≤ k + 1) (h0 : 0 ≤ rd) (h1 : rd ≤ 5000 * ((k + 1 : Nat) : Int)) :
    SeqRel I w p n (.int .u32 (nx.i : Int)) nx.v (.slice ka (KL.length + 1) kc) (.slice la (KL.length + 1) lc) (.int .i64 ((k + 1 : Nat) : Int)) wr := by
  have e1 : (KL ++ [cur]).length = KL.length + 1 := by simp
  have e2 : ki (KL ++ [cur]) = ki KL ++ [cur.i] := by simp [ki]
  have e3 : kv (KL ++ [cur]) = kv KL ++ [cur.v] := by simp [kv]
  refine ⟨k + 1, B, rd, KL ++ [cur], nx, RS, ka, la, kc, lc, rfl, rfl, by rw [e1], by rw [e1], rfl, hk, by rw [e1]; omega, htl, h0, h1, hv, ?_⟩
  rw [e1, e2, e3, u32s_one]
  exact hs.permR (List.Perm.swap _ _ _)
theorem one_cellS (a : Option Addr) (n c : Nat) : ∀ u ∈ [Value.slice a n c], u.oneCell' = true := by
  intro u hu; simp at hu; subst hu; rfl
set_option maxHeartbeats 16000000 in
set_option maxRecDepth 100000 in
theorem useq_walk (I : AImpl) (hchk : CheckSpec) (K : UpdImpl I) {a b : Option Addr} {n c m d : Nat} {E : List Ed} {bs : List Bool} {w : World} (hE : EditsAt w a E) (hn : E.length = n) (hnm : n ≤ 9223372036854775807) (hB : BoolsAt w b bs) (hm : bs.length = m) (hmm : m ≤ 9223372036854775807) :
    Calls Try.prog 4 #[.slice a n c, .slice b m d] w (Calm w (.bool true)) := by
  obtain ⟨i0, ji, jz0, jz1, jz2⟩ := info_parts uInfo
  obtain ⟨i1, li, lz0, lz1, lz2⟩ := info_parts slInfo
  have HK := Lib.hid K
  have HCHK := Lib.hid hchk
  have HE := Lib.hid hE
  have HN := Lib.hid hn
  have HB := Lib.hid hB
  have HM := Lib.hid hm
  have HMM : Hid (m ≤ 9223372036854775807) := hmm
  have hmi : (m : Int) ≤ 9223372036854775807 := by omega
  clear K hchk hE hn hB hm hmm
  go_enter Try.func4, Try.ntmps4
  rcases Nat.lt_or_ge 60 n with hn6 | hn6
  · have hd : decide ((n : Int) > 60) = true := decide_eq_true (by omega)
    have hd2 : decide ((60 : Int) < (n : Int)) = true := decide_eq_true (by omega)
    have hd3 : 60 < n := hn6
    clear hn6
    go_wp2_with fail
    refine (awake14_any I HK.out w).mono ?_
    rintro en w1 ⟨rfl, hb1⟩
    have HB1 := Lib.hid hb1
    clear hb1
    go_wp2_with fail
    go_ret
    exact ⟨rfl, HB1.out⟩
  have hd : decide ((n : Int) > 60) = false := decide_eq_false (by omega)
  have hd2 : decide ((60 : Int) < (n : Int)) = false := decide_eq_false (by omega)
  have hd3 : ¬ 60 < n := Nat.not_lt.2 hn6
  have HN6 : Hid (n ≤ 60) := hn6
  have hni : (n : Int) ≤ 60 := by omega
  clear hn6
  go_wp2_with fail
  refine (I.new_ok 4000 w (by decide) (by decide)).mono ?_
  rintro en w1 ⟨p, F, rfl, hI, hF, hb1⟩
  obtain ⟨pa, rfl⟩ := I.ptr hI
  have hs1 : Scn I w.heap.size w w1 (.pointer (some pa)) (Ar.init 4000) 0 [] [] := Scn.start ⟨⟨F, hI, hF, fun k hk => hk.elim⟩, hb1, hb1.size⟩
  have HS1 := Lib.hid hs1
  have HIN : Hid ((Ar.init 4000).Inv [] (fun _ => 0) ∧ (Ar.init 4000).Agg ∧ (Ar.init 4000).σ.cap = 4000) := ⟨Ar.init_inv (by decide) (by decide), Ar.init_agg _, rfl⟩
  generalize Ar.init 4000 = A0 at HS1 HIN hs1
  clear hI hF hb1 hs1
  go_wp2_with fail
  refine (awake14_any I HK.out w1).mono ?_
  rintro en w2 ⟨rfl, hb2⟩
  have hs2 := HS1.out.calm hb2
  have hnil : ∀ (ty : TypeId) (s : Nat), w2.ownsRow w2.heap.size ty s (.slice none 0 0) 0 [] := fun ty s => World.ownsRow_nil _ _ _ _
  have hs3 := ((hs2.row (Below.refl _ _) (hnil 31 2)).row (Below.refl _ _) (hnil 22 1)).row (Below.refl _ _) (hnil 26 1)
  have HR : Hid (SeqRel I w (.pointer (some pa)) n (.int .u32 0) (.slice none 0 0) (.slice none 0 0) (.slice none 0 0) (.int .i64 0) w2) :=
    ⟨0, A0, 0, [], ⟨0, .nil, [], .slice none 0 0⟩, [⟨31, 2, .slice none 0 0, 0, []⟩], none, none, 0, 0, rfl, rfl, rfl, rfl, rfl, Nat.zero_le _, Nat.le_refl _, Nat.le_refl _, by decide, by decide,
     ⟨fun d hd => (by cases hd), ⟨tree_nil HIN.out.1 HIN.out.2.1, by decide, fun y hy => (by cases hy), ⟨none, 0, rfl⟩, List.mem_singleton.2 rfl⟩, by
        have h1 := hof_zero []
        rw [hof_nil] at h1
        show A0.Inv [] (hof ([] ++ [0]))
        rw [h1]; exact HIN.out.1, HIN.out.2.1, HIN.out.2.2, by decide⟩, hs3⟩
  clear hb2 hs2 hnil hs3 HS1 HIN
  go_wp2_with fail
  go_loopw [7, 8, 9, 10, 11] (fun s7 s8 s9 s10 s11 wr => SeqRel I w (.pointer (some pa)) n s7 s8 s9 s10 s11 wr) (fun _ _ _ _ s11 _ => n - (intOf s11).toNat)
  case atStart => exact HR.out
  case round =>
    clear HR
    obtain ⟨k, A, rd, KL, ⟨ti, tt, tl, tv⟩, RS, ka, la, kc, lc, rfl, h8, rfl, rfl, rfl, hk, hkl, htl, hr0, hr1, hv, hs⟩ := hrel
    have HV := Lib.hid hv
    have HS := Lib.hid hs
    obtain ⟨ta, tc, htv⟩ := hv.top.val
    obtain ⟨TL, hTL⟩ : ∃ TL, tl.length = TL := ⟨_, rfl⟩
    have htv' : tv = .slice ta TL tc := by rw [← hTL]; exact htv
    have htl' : TL ≤ k := by rw [← hTL]; exact htl
    rw [show (⟨ti, tt, tl, tv⟩ : Kd).v = tv from rfl, htv'] at h8
    subst h8
    subst htv'
    have HKK : Hid (k ≤ n ∧ KL.length ≤ k ∧ TL ≤ k ∧ 0 ≤ rd ∧ rd ≤ 5000 * (k : Int) ∧ tl.length = TL) := ⟨hk, hkl, htl', hr0, hr1, hTL⟩
    have hk0 : (0 : Int) ≤ (k : Int) := by omega
    clear htv hTL htl htl' hk hkl hr0 hr1 hv hs
    by_cases hkn : k < n
    · have hkn2 : (k : Int) < (n : Int) := by omega
      have hkn3 : decide ((k : Int) < (n : Int)) = true := decide_eq_true hkn2
      have HKN := Lib.hid hkn
      obtain ⟨⟨xd, ⟨xk, xv⟩⟩, hx⟩ : ∃ x, E[k]? = some x := ⟨_, List.getElem?_eq_getElem (by rw [HN.out]; exact hkn)⟩
      have HXW : Hid (i64R xk ∧ i64R xv) := HE.out.wf _ (List.mem_of_getElem? hx)
      have HX := Lib.hid hx
      obtain ⟨eb, eo, rfl, heb, c0, c1, c2⟩ := (HE.out.below HS.out.below).cell k _ hx
      have HEB : Hid (∀ wx, Below w.heap.size w wx → wx.cell? ⟨eb, eo + k * 3, none⟩ = some (.bool xd)) := fun wx hb => by
        obtain ⟨b', o', hab, _, h1, _⟩ := (HE.out.below hb).cell k _ HX.out
        simp only [Option.some.injEq, Addr.mk.injEq, and_true] at hab
        rw [hab.1, hab.2]; exact h1
      have c3 : wr.cell? ⟨eb, eo + k * 3 + 1 + 1, none⟩ = some (.int .i64 xv) := c2
      have hs5 := HS.out.box #[.int .i64 xk, .int .i64 xv] 31
      clear hx heb hkn
      go_upto_region 13 with fail
      generalize wr.alloc (.cells #[.int .i64 xk, .int .i64 xv] 31) = w5 at hs5 ⊢
      generalize wr.heap.size = gx at hs5 ⊢
      clear c0 c1 c2 c3
      obtain ⟨x0, x1, -, -⟩ := hs5.two (g := gx) (x := xk) (y := xv) (t := 31) (by simp)
      have c0 := HEB.out w5 hs5.below
      have HS5 := Lib.hid hs5
      have hfree := HV.out.free
      have HFRE := Lib.hid hfree
      have hins := ins_max (n := (tl.length : Int)) (by omega) (by have := HKK.out; have := HN6.out; omega)
      have hdel := del_max (n := (tl.length : Int)) (by omega) (by have := HKK.out; have := HN6.out; omega)
      have hub := upd_max (n := tl.length) (by have := HKK.out; have := HN6.out; omega)
      have HMX : Hid (insI (tl.length : Int) ≤ 64 ∧ delI (tl.length : Int) ≤ 64 ∧ updBd tl.length ≤ 5000) := ⟨hins.1, hdel.1, hub⟩
      have HENT : Hid (∀ {wx : World} {C : Ar} {rdx : Int} {rs' : List Row} {bs' : List (Nat × Obj)}, Scn I w.heap.size w wx (.pointer (some pa)) C rdx (rs' ++ RS) bs' → EnsAt wx ta tl) := fun {wx C rdx rs' bs'} h => ens_row (B := w.heap.size) (c := tc) HKK.out.2.2.2.2.2 (by have := h.rows _ (List.mem_append_right rs' HV.out.top.row); rw [HKK.out.2.2.2.2.2] at this; exact this) HV.out.top.wf
      clear hs5 HS hfree hins hdel hub
      cases xd with
      | true =>
        as_aux_lemma =>
          go_wp2_with fail
          refine (HS5.out.mut fun F hI => HK.out.delete xk w5 hI HV.out.inv (seq_small HV.out.n) HV.out.top.tree HV.out.top.wf HKK.out.2.2.2.1 (by have := HKK.out; have := HN6.out; omega) HXW.out.1).mono ?_
          rintro en w6 ⟨B, rd2, ⟨h20, h21, hq⟩, hs6⟩
          have HS6 := Lib.hid hs6
          have HRD : Hid (0 ≤ rd2 ∧ rd2 ≤ 5000 * ((k + 1 : Nat) : Int)) := ⟨by have := HKK.out; omega, by have := HKK.out; have := HMX.out; have h3 : rd2 ≤ rd + updBd tl.length := h21; push_cast; omega⟩
          have hq' : (getE tl xk = none ∧ en = .returned (.tuple #[.int .u32 0, .int .i64 0, .int .i64 4]) ∧ B = A) ∨ (getE tl xk ≠ none ∧ ∃ (j : Nat) (u : Tr), en = .returned (.tuple #[.int .u32 (j : Int), .int .i64 ((getE tl xk).elim 0 (·.val)), .int .i64 0]) ∧ Got A (hof (ti :: ki KL)) B j u (outE tl xk xk)) := by
            rcases hq with h | ⟨_, h1, _⟩ | ⟨h0, _, j, u, h2, h3, _⟩
            · exact .inl h
            · exact absurd (show (A.σ.free.length : Int) < delI (tl.length : Int) from h1) (by have := HMX.out; have := HFRE.out; show ¬ _ < _; omega)
            · exact .inr ⟨h0, j, u, h2, h3⟩
          have hup := out_up HV.out.top.tree.up xk xk
          have hwf := out_wf HV.out.top.wf xk xk
          have hlen := out_len tl xk xk
          have hrd9 : ∀ wx, EnsAt wx ta tl → Calls Try.prog 20 #[.slice ta TL tc, .int .i64 xk] wx (MadeEns wx (outE tl xk xk)) := fun wx h => refDelete9_any (c := tc) xk h HKK.out.2.2.2.2.2 (by have := HKK.out; have := HN6.out; omega)
          have HGET : Hid (∀ wx, EnsAt wx ta tl → Calls Try.prog 12 #[.slice ta TL tc, .int .i64 xk] wx (fun e w' => e = .returned (.tuple #[.int .i64 ((getE tl xk).elim 0 (·.val)), .bool (getE tl xk).isSome]) ∧ w' = wx)) := fun wx h => get_any xk h HKK.out.2.2.2.2.2 (by have := HKK.out; have := HN6.out; omega)
          generalize outE tl xk xk = nl at hq' hup hwf hlen hrd9
          obtain ⟨NL, hNL⟩ : ∃ NL, nl.length = NL := ⟨_, rfl⟩
          have HNL : Hid (Up nl ∧ WfL nl ∧ NL ≤ k + 1 ∧ nl.length = NL) := ⟨hup, hwf, by have := HKK.out; omega, hNL⟩
          have HRD9 : Hid (∀ wx, EnsAt wx ta tl → Calls Try.prog 20 #[.slice ta TL tc, .int .i64 xk] wx (fun e w' => ∃ a c, e = .returned (.slice a NL c) ∧ w'.ownsRow wx.heap.size 31 2 (.slice a NL c) NL (ensV nl) ∧ Below wx.heap.size wx w')) := fun wx h => by
            have := hrd9 wx h
            unfold MadeEns at this
            rw [hNL] at this
            exact this
          clear h20 h21 hq hup hwf hlen hrd9 hNL HS5
          rcases hq' with ⟨hgn, rfl, rfl⟩ | ⟨hgn, j, u, rfl, hgot⟩
          · obtain ⟨x0, x1, -, -⟩ := hs6.two (g := gx) (x := xk) (y := xv) (t := 31) (by simp)
            clear hs6
            go_wp2_with fail
            clear x0 x1
            refine (HRD9.out _ (HENT.out (rs' := [_, _]) HS6.out)).mono ?_
            rintro en w7 ⟨xa, xc, rfl, hr7, hb7⟩
            have hs7 := HS6.out.row hb7 hr7
            obtain ⟨x0, x1, -, -⟩ := hs7.two (g := gx) (x := xk) (y := xv) (t := 31) (by simp)
            have HS7 := Lib.hid hs7
            clear hr7 hb7 hs7 HS6
            go_wp2_with fail
            clear x0 x1
            refine (HGET.out _ (HENT.out (rs' := [_, _, _]) HS7.out)).mono ?_
            rintro en w8 ⟨rfl, hw8⟩
            obtain rfl : w7 = w8 := hw8.symm
            rw [hgn]
            have HR : Hid (SeqRel I w (.pointer (some pa)) n (.int .u32 (ti : Int)) (.slice ta TL tc) (.slice ka KL.length kc) (.slice la KL.length lc) (.int .i64 ((k + 1 : Nat) : Int)) w7) :=
              ⟨k + 1, B, rd2, KL, ⟨ti, tt, tl, .slice ta TL tc⟩, RS, ka, la, kc, lc, rfl, rfl, rfl, rfl, rfl, HKN.out, by have := HKK.out; omega, by have := HKK.out; show tl.length ≤ _; omega, HRD.out.1, HRD.out.2, HV.out, HS7.out.less (List.sublist_cons_self _ _) (List.nil_sublist _)⟩
            clear hgn
            go_wp2_with fail
            exact ⟨HR.out, by simp [intOf]; omega⟩
          · obtain ⟨x0, x1, -, -⟩ := hs6.two (g := gx) (x := xk) (y := xv) (t := 31) (by simp)
            have HG := Lib.hid hgot
            have hsome : (getE tl xk).isSome = true := by
              cases hg : getE tl xk with
              | none => exact absurd hg hgn
              | some e' => rfl
            clear hs6 hgot hgn
            go_wp2_with fail
            clear x0 x1
            refine (HRD9.out _ (HENT.out (rs' := [_, _]) HS6.out)).mono ?_
            rintro en w7 ⟨xa, xc, rfl, hr7, hb7⟩
            have hs7 := HS6.out.row hb7 hr7
            obtain ⟨x0, x1, -, -⟩ := hs7.two (g := gx) (x := xk) (y := xv) (t := 31) (by simp)
            have HS7 := Lib.hid hs7
            clear hr7 hb7 hs7 HS6
            go_wp2_with fail
            clear x0 x1
            refine (HGET.out _ (HENT.out (rs' := [_, _, _]) HS7.out)).mono ?_
            rintro en w8 ⟨rfl, hw8⟩
            obtain rfl : w7 = w8 := hw8.symm
            rw [hsome]
            clear hsome
            by_cases hkm : k < m
            · have hkm2 : (k : Int) < (m : Int) := by omega
              have hkm3 : decide ((k : Int) < (m : Int)) = true := decide_eq_true hkm2
              obtain ⟨bk, hbk⟩ : ∃ x, bs[k]? = some x := ⟨_, List.getElem?_eq_getElem (by rw [HM.out]; exact hkm)⟩
              obtain ⟨fb, fo, rfl, -, cb⟩ := (HB.out.below HS7.out.below).cell k _ hbk
              clear hbk
              cases bk with
              | true =>
                have h8 := ((HS7.out).less (List.Sublist.refl _) (List.nil_sublist _)).calm (below_new w7 (Obj.cells #[Value.int .u32 (ti : Int)] 26))
                have h8p := h8.permR (List.Perm.swap _ _ _)
                have hrow := h8p.rows _ (List.mem_cons_self ..)
                have hB : w.heap.size ≤ (w7.alloc (Obj.cells #[Value.int .u32 (ti : Int)] 26)).heap.size := h8p.below.size
                have hnew := cell_new1 w7 (Value.int .u32 (ti : Int)) 26
                have hkl60 : KL.length ≤ 60 := HV.out.n
                have H8P := Lib.hid h8p
                clear h8 h8p
                go_wp2_with (at_builtin; first
                  | (refine wpList_append_own_at _ rfl (.tmp 108) (.tmp 110) 41 rfl w.heap.size 26 i0 (.int .u32 0) 1 4 Try.underlying41 ji jz0 jz1 jz2 rfl (by decide) _ KL.length (u32s (ki KL)) rfl hrow ⟨w7.heap.size, 0, none⟩ 1 1 [.int .u32 (ti : Int)] rfl rfl hnew (one_cell1 _ _) (by unfold maxLen; omega) (by omega) hB ?_; intro v8 w8 ho8 hg8 _ hv8; obtain ⟨va, vc, rfl⟩ := row_val ho8; have h9 := H8P.out.grew ho8 hg8 hv8; clear ho8 hg8 hv8 hrow hB hnew H8P; have h10 := (h9.calm (below_new w8 (Obj.cells #[Value.slice ta TL tc] 22))).permR (List.perm_middle (l₁ := [_, _])); have hrow := h10.rows _ (List.mem_cons_self ..); have hB : w.heap.size ≤ (w8.alloc (Obj.cells #[Value.slice ta TL tc] 22)).heap.size := h10.below.size; have hnew := cell_new1 w8 (Value.slice ta TL tc) 22; have H10 := Lib.hid h10; clear h9 h10)
                  | (refine wpList_append_own_at _ rfl (.tmp 112) (.tmp 114) 51 rfl w.heap.size 22 i1 (.slice none 0 0) 1 24 Try.underlying51 li lz0 lz1 lz2 rfl (by decide) _ KL.length (kv KL) rfl hrow ⟨w8.heap.size, 0, none⟩ 1 1 [.slice ta TL tc] rfl rfl hnew (one_cellS _ _ _) (by unfold maxLen; omega) (by omega) hB ?_; intro v9 w9 ho9 hg9 _ hv9; obtain ⟨vb, vd, rfl⟩ := row_val ho9; have h11 := H10.out.grew ho9 hg9 hv9; clear ho9 hg9 hv9 hrow hB hnew H10))
                have HR : Hid (SeqRel I w (.pointer (some pa)) n (.int .u32 (j : Int)) (.slice xa NL xc) (.slice va (KL.length + 1) vc) (.slice vb (KL.length + 1) vd) (.int .i64 ((k + 1 : Nat) : Int)) w9) :=
                  SeqRel.push (cur := ⟨ti, tt, tl, .slice ta TL tc⟩) (nx := ⟨j, u, nl, .slice xa NL xc⟩) (seq_keep HV.out HG.out HNL.out.1 HNL.out.2.1 HNL.out.2.2.2 (by have := HNL.out; have := HKN.out; have := HN6.out; omega) (by have := HKK.out; have := HKN.out; have := HN6.out; omega)) h11 HKN.out HKK.out.2.1 (by show nl.length ≤ _; have := HNL.out; omega) HRD.out.1 HRD.out.2
                clear h11
                exact ⟨HR.out, by simp [intOf]; omega⟩
              | false =>
                go_wp2_with fail
                refine (HS7.out.release' (HV.out.give (nx := ⟨j, u, nl, .slice xa NL xc⟩) HG.out) HG.out.agg).mono ?_
                rintro en w9 ⟨m9, rfl, hi9, ha9, hc9, hs9⟩
                have HR : Hid (SeqRel I w (.pointer (some pa)) n (.int .u32 (j : Int)) (.slice xa NL xc) (.slice ka KL.length kc) (.slice la KL.length lc) (.int .i64 ((k + 1 : Nat) : Int)) w9) :=
                  ⟨k + 1, B.gone ti, rd2, KL, ⟨j, u, nl, .slice xa NL xc⟩, _, ka, la, kc, lc, rfl, rfl, rfl, rfl, rfl, HKN.out, by have := HKK.out; omega, by show nl.length ≤ _; have := HNL.out; omega, HRD.out.1, HRD.out.2, seq_drop (cur := ⟨ti, tt, tl, .slice ta TL tc⟩) HV.out HG.out HNL.out.1 HNL.out.2.1 HNL.out.2.2.2 (by have := HNL.out; have := HKN.out; have := HN6.out; omega) hi9 ha9 hc9, (hs9.less (List.Sublist.refl _) (List.nil_sublist _)).permR (List.perm_middle (l₁ := [_, _])).symm⟩
                clear hi9 ha9 hc9 hs9
                go_wp2_with fail
                exact ⟨HR.out, by simp [intOf]; omega⟩
            · have hkm2 : ¬ (k : Int) < (m : Int) := by omega
              have hkm3 : decide ((k : Int) < (m : Int)) = false := decide_eq_false hkm2
              go_wp2_with fail
              refine (HS7.out.release' (HV.out.give (nx := ⟨j, u, nl, .slice xa NL xc⟩) HG.out) HG.out.agg).mono ?_
              rintro en w9 ⟨m9, rfl, hi9, ha9, hc9, hs9⟩
              have HR : Hid (SeqRel I w (.pointer (some pa)) n (.int .u32 (j : Int)) (.slice xa NL xc) (.slice ka KL.length kc) (.slice la KL.length lc) (.int .i64 ((k + 1 : Nat) : Int)) w9) :=
                ⟨k + 1, B.gone ti, rd2, KL, ⟨j, u, nl, .slice xa NL xc⟩, _, ka, la, kc, lc, rfl, rfl, rfl, rfl, rfl, HKN.out, by have := HKK.out; omega, by show nl.length ≤ _; have := HNL.out; omega, HRD.out.1, HRD.out.2, seq_drop (cur := ⟨ti, tt, tl, .slice ta TL tc⟩) HV.out HG.out HNL.out.1 HNL.out.2.1 HNL.out.2.2.2 (by have := HNL.out; have := HKN.out; have := HN6.out; omega) hi9 ha9 hc9, (hs9.less (List.Sublist.refl _) (List.nil_sublist _)).permR (List.perm_middle (l₁ := [_, _])).symm⟩
              clear hi9 ha9 hc9 hs9
              go_wp2_with fail
              exact ⟨HR.out, by simp [intOf]; omega⟩
      | false =>
        as_aux_lemma =>
          go_wp2_with fail
          refine (HS5.out.mut fun F hI => HK.out.insert ⟨xk, xv⟩ w5 hI HV.out.inv (seq_small HV.out.n) HV.out.top.tree HV.out.top.wf HKK.out.2.2.2.1 (by have := HKK.out; have := HN6.out; omega) HXW.out.1 HXW.out.2).mono ?_
          rintro en w6 ⟨B, rd2, hq, hs6⟩
          obtain ⟨h20, h21, j, u, yv, yb, rfl, hgot⟩ := insQ_room hq HV.out.top.tree.up (show insI (tl.length : Int) ≤ (A.σ.free.length : Int) from by have := HMX.out; have := HFRE.out; omega)
          have HS6 := Lib.hid hs6
          have HRD : Hid (0 ≤ rd2 ∧ rd2 ≤ 5000 * ((k + 1 : Nat) : Int)) := ⟨by have := HKK.out; omega, by have := HKK.out; have := HMX.out; have h3 : rd2 ≤ rd + updBd tl.length := h21; push_cast; omega⟩
          have hgot' : Got A (hof (ti :: ki KL)) B j u (insE tl ⟨xk, xv⟩) := hgot
          have hup := insE_up (e := ⟨xk, xv⟩) HV.out.top.tree.up
          have hwf := insE_wf (e := ⟨xk, xv⟩) HV.out.top.wf HXW.out
          have hlen := insE_len tl ⟨xk, xv⟩
          have hrd9 : ∀ wx, EnsAt wx ta tl → Calls Try.prog 14 #[.slice ta TL tc, .agg #[.int .i64 xk, .int .i64 xv]] wx (MadeEns wx (insE tl ⟨xk, xv⟩)) := fun wx h => by
            have := insert_any (c := tc) ⟨xk, xv⟩ h HXW.out (by have := HKK.out; have := HN6.out; omega)
            rw [HKK.out.2.2.2.2.2] at this
            exact this
          generalize insE tl ⟨xk, xv⟩ = nl at hgot' hup hwf hlen hrd9
          obtain ⟨NL, hNL⟩ : ∃ NL, nl.length = NL := ⟨_, rfl⟩
          have HNL : Hid (Up nl ∧ WfL nl ∧ NL ≤ k + 1 ∧ nl.length = NL) := ⟨hup, hwf, by have := HKK.out; have h4 : nl.length ≤ tl.length + 1 := hlen; omega, hNL⟩
          have HRD9 : Hid (∀ wx, EnsAt wx ta tl → Calls Try.prog 14 #[.slice ta TL tc, .agg #[.int .i64 xk, .int .i64 xv]] wx (fun e w' => ∃ a c, e = .returned (.slice a NL c) ∧ w'.ownsRow wx.heap.size 31 2 (.slice a NL c) NL (ensV nl) ∧ Below wx.heap.size wx w')) := fun wx h => by
            have := hrd9 wx h
            unfold MadeEns at this
            rw [hNL] at this
            exact this
          have HG := Lib.hid hgot'
          clear h20 h21 hq hup hwf hlen hrd9 hNL HS5 hgot hgot'
          obtain ⟨x0, x1, -, -⟩ := hs6.two (g := gx) (x := xk) (y := xv) (t := 31) (by simp)
          clear hs6
          go_wp2_with fail
          clear x0 x1
          refine (HRD9.out _ (HENT.out (rs' := [_, _]) HS6.out)).mono ?_
          rintro en w7 ⟨xa, xc, rfl, hr7, hb7⟩
          have hs7 := HS6.out.row hb7 hr7
          have HS7 := Lib.hid hs7
          clear hr7 hb7 hs7 HS6
          by_cases hkm : k < m
          · have hkm2 : (k : Int) < (m : Int) := by omega
            have hkm3 : decide ((k : Int) < (m : Int)) = true := decide_eq_true hkm2
            obtain ⟨bk, hbk⟩ : ∃ x, bs[k]? = some x := ⟨_, List.getElem?_eq_getElem (by rw [HM.out]; exact hkm)⟩
            obtain ⟨fb, fo, rfl, -, cb⟩ := (HB.out.below HS7.out.below).cell k _ hbk
            clear hbk
            cases bk with
            | true =>
              have h8 := ((HS7.out).less (List.Sublist.refl _) (List.nil_sublist _)).calm (below_new w7 (Obj.cells #[Value.int .u32 (ti : Int)] 26))
              have h8p := h8.permR (List.Perm.swap _ _ _)
              have hrow := h8p.rows _ (List.mem_cons_self ..)
              have hB : w.heap.size ≤ (w7.alloc (Obj.cells #[Value.int .u32 (ti : Int)] 26)).heap.size := h8p.below.size
              have hnew := cell_new1 w7 (Value.int .u32 (ti : Int)) 26
              have hkl60 : KL.length ≤ 60 := HV.out.n
              have H8P := Lib.hid h8p
              clear h8 h8p
              go_wp2_with (at_builtin; first
                | (refine wpList_append_own_at _ rfl (.tmp 108) (.tmp 110) 41 rfl w.heap.size 26 i0 (.int .u32 0) 1 4 Try.underlying41 ji jz0 jz1 jz2 rfl (by decide) _ KL.length (u32s (ki KL)) rfl hrow ⟨w7.heap.size, 0, none⟩ 1 1 [.int .u32 (ti : Int)] rfl rfl hnew (one_cell1 _ _) (by unfold maxLen; omega) (by omega) hB ?_; intro v8 w8 ho8 hg8 _ hv8; obtain ⟨va, vc, rfl⟩ := row_val ho8; have h9 := H8P.out.grew ho8 hg8 hv8; clear ho8 hg8 hv8 hrow hB hnew H8P; have h10 := (h9.calm (below_new w8 (Obj.cells #[Value.slice ta TL tc] 22))).permR (List.perm_middle (l₁ := [_, _])); have hrow := h10.rows _ (List.mem_cons_self ..); have hB : w.heap.size ≤ (w8.alloc (Obj.cells #[Value.slice ta TL tc] 22)).heap.size := h10.below.size; have hnew := cell_new1 w8 (Value.slice ta TL tc) 22; have H10 := Lib.hid h10; clear h9 h10)
                | (refine wpList_append_own_at _ rfl (.tmp 112) (.tmp 114) 51 rfl w.heap.size 22 i1 (.slice none 0 0) 1 24 Try.underlying51 li lz0 lz1 lz2 rfl (by decide) _ KL.length (kv KL) rfl hrow ⟨w8.heap.size, 0, none⟩ 1 1 [.slice ta TL tc] rfl rfl hnew (one_cellS _ _ _) (by unfold maxLen; omega) (by omega) hB ?_; intro v9 w9 ho9 hg9 _ hv9; obtain ⟨vb, vd, rfl⟩ := row_val ho9; have h11 := H10.out.grew ho9 hg9 hv9; clear ho9 hg9 hv9 hrow hB hnew H10))
              have HR : Hid (SeqRel I w (.pointer (some pa)) n (.int .u32 (j : Int)) (.slice xa NL xc) (.slice va (KL.length + 1) vc) (.slice vb (KL.length + 1) vd) (.int .i64 ((k + 1 : Nat) : Int)) w9) :=
                SeqRel.push (cur := ⟨ti, tt, tl, .slice ta TL tc⟩) (nx := ⟨j, u, nl, .slice xa NL xc⟩) (seq_keep HV.out HG.out HNL.out.1 HNL.out.2.1 HNL.out.2.2.2 (by have := HNL.out; have := HKN.out; have := HN6.out; omega) (by have := HKK.out; have := HKN.out; have := HN6.out; omega)) h11 HKN.out HKK.out.2.1 (by show nl.length ≤ _; have := HNL.out; omega) HRD.out.1 HRD.out.2
              clear h11
              exact ⟨HR.out, by simp [intOf]; omega⟩
            | false =>
              go_wp2_with fail
              refine (HS7.out.release' (HV.out.give (nx := ⟨j, u, nl, .slice xa NL xc⟩) HG.out) HG.out.agg).mono ?_
              rintro en w9 ⟨m9, rfl, hi9, ha9, hc9, hs9⟩
              have HR : Hid (SeqRel I w (.pointer (some pa)) n (.int .u32 (j : Int)) (.slice xa NL xc) (.slice ka KL.length kc) (.slice la KL.length lc) (.int .i64 ((k + 1 : Nat) : Int)) w9) :=
                ⟨k + 1, B.gone ti, rd2, KL, ⟨j, u, nl, .slice xa NL xc⟩, _, ka, la, kc, lc, rfl, rfl, rfl, rfl, rfl, HKN.out, by have := HKK.out; omega, by show nl.length ≤ _; have := HNL.out; omega, HRD.out.1, HRD.out.2, seq_drop (cur := ⟨ti, tt, tl, .slice ta TL tc⟩) HV.out HG.out HNL.out.1 HNL.out.2.1 HNL.out.2.2.2 (by have := HNL.out; have := HKN.out; have := HN6.out; omega) hi9 ha9 hc9, (hs9.less (List.Sublist.refl _) (List.nil_sublist _)).permR (List.perm_middle (l₁ := [_, _])).symm⟩
              clear hi9 ha9 hc9 hs9
              go_wp2_with fail
              exact ⟨HR.out, by simp [intOf]; omega⟩
          · have hkm2 : ¬ (k : Int) < (m : Int) := by omega
            have hkm3 : decide ((k : Int) < (m : Int)) = false := decide_eq_false hkm2
            go_wp2_with fail
            refine (HS7.out.release' (HV.out.give (nx := ⟨j, u, nl, .slice xa NL xc⟩) HG.out) HG.out.agg).mono ?_
            rintro en w9 ⟨m9, rfl, hi9, ha9, hc9, hs9⟩
            have HR : Hid (SeqRel I w (.pointer (some pa)) n (.int .u32 (j : Int)) (.slice xa NL xc) (.slice ka KL.length kc) (.slice la KL.length lc) (.int .i64 ((k + 1 : Nat) : Int)) w9) :=
              ⟨k + 1, B.gone ti, rd2, KL, ⟨j, u, nl, .slice xa NL xc⟩, _, ka, la, kc, lc, rfl, rfl, rfl, rfl, rfl, HKN.out, by have := HKK.out; omega, by show nl.length ≤ _; have := HNL.out; omega, HRD.out.1, HRD.out.2, seq_drop (cur := ⟨ti, tt, tl, .slice ta TL tc⟩) HV.out HG.out HNL.out.1 HNL.out.2.1 HNL.out.2.2.2 (by have := HNL.out; have := HKN.out; have := HN6.out; omega) hi9 ha9 hc9, (hs9.less (List.Sublist.refl _) (List.nil_sublist _)).permR (List.perm_middle (l₁ := [_, _])).symm⟩
            clear hi9 ha9 hc9 hs9
            go_wp2_with fail
            exact ⟨HR.out, by simp [intOf]; omega⟩
    · have hkn2 : ¬ (k : Int) < (n : Int) := by omega
      have hkn3 : decide ((k : Int) < (n : Int)) = false := decide_eq_false hkn2
      have h8 := ((HS.out).less (List.Sublist.refl _) (List.nil_sublist _)).calm (below_new wr (Obj.cells #[Value.int .u32 (ti : Int)] 26))
      have h8p := h8
      have hrow := h8p.rows _ (List.mem_cons_self ..)
      have hB : w.heap.size ≤ (wr.alloc (Obj.cells #[Value.int .u32 (ti : Int)] 26)).heap.size := h8p.below.size
      have hnew := cell_new1 wr (Value.int .u32 (ti : Int)) 26
      have hkl60 : KL.length ≤ 60 := HV.out.n
      have H8P := Lib.hid h8p
      clear h8 h8p
      go_wp2_with (at_builtin; first
        | (refine wpList_append_own_at _ rfl (.tmp 126) (.tmp 128) 41 rfl w.heap.size 26 i0 (.int .u32 0) 1 4 Try.underlying41 ji jz0 jz1 jz2 rfl (by decide) _ KL.length (u32s (ki KL)) rfl hrow ⟨wr.heap.size, 0, none⟩ 1 1 [.int .u32 (ti : Int)] rfl rfl hnew (one_cell1 _ _) (by unfold maxLen; omega) (by omega) hB ?_; intro v8 w8 ho8 hg8 _ hv8; obtain ⟨va, vc, rfl⟩ := row_val ho8; have h9 := H8P.out.grew ho8 hg8 hv8; clear ho8 hg8 hv8 hrow hB hnew H8P; have h10 := (h9.calm (below_new w8 (Obj.cells #[Value.slice ta TL tc] 22))).permR (List.Perm.swap _ _ _); have hrow := h10.rows _ (List.mem_cons_self ..); have hB : w.heap.size ≤ (w8.alloc (Obj.cells #[Value.slice ta TL tc] 22)).heap.size := h10.below.size; have hnew := cell_new1 w8 (Value.slice ta TL tc) 22; have H10 := Lib.hid h10; clear h9 h10)
        | (refine wpList_append_own_at _ rfl (.tmp 130) (.tmp 132) 51 rfl w.heap.size 22 i1 (.slice none 0 0) 1 24 Try.underlying51 li lz0 lz1 lz2 rfl (by decide) _ KL.length (kv KL) rfl hrow ⟨w8.heap.size, 0, none⟩ 1 1 [.slice ta TL tc] rfl rfl hnew (one_cellS _ _ _) (by unfold maxLen; omega) (by omega) hB ?_; intro v9 w9 ho9 hg9 _ hv9; obtain ⟨vb, vd, rfl⟩ := row_val ho9; have h11 := H10.out.grew ho9 hg9 hv9; clear ho9 hg9 hv9 hrow hB hnew H10))
      obtain ⟨K1, hK1⟩ : ∃ K1, KL.length + 1 = K1 := ⟨_, rfl⟩
      obtain ⟨KF, hKF⟩ : ∃ KF, KL ++ [(⟨ti, tt, tl, .slice ta TL tc⟩ : Kd)] = KF := ⟨_, rfl⟩
      have e1 : KF.length = K1 := by rw [← hKF, ← hK1]; simp
      have e2 : u32s (ki KL) ++ [.int .u32 (ti : Int)] = u32s (ki KF) := by rw [← hKF, show ki (KL ++ [(⟨ti, tt, tl, .slice ta TL tc⟩ : Kd)]) = ki KL ++ [ti] from by simp [ki], u32s_one]
      have e3 : kv KL ++ [.slice ta TL tc] = kv KF := by rw [← hKF]; simp [kv]
      have hinv : A.Inv [] (hof (ki KF)) := by
        rw [← hKF, show ki (KL ++ [(⟨ti, tt, tl, .slice ta TL tc⟩ : Kd)]) = [] ++ ki KL ++ [ti] from by simp [ki], hof_perm (List.perm_append_comm)]
        exact HV.out.inv
      have hok : ∀ d ∈ KF, d.Ok A RS := fun d hd => by
        rw [← hKF] at hd
        rcases List.mem_append.1 hd with hd | hd
        · exact HV.out.kept d hd
        · simp at hd
          subst hd
          exact HV.out.top
      have HKF : Hid ((∀ d ∈ KF, d.Ok A RS) ∧ A.Inv [] (hof (ki KF)) ∧ A.Agg ∧ A.σ.cap = 4000 ∧ KF.length = K1 ∧ K1 ≤ 61 ∧ 0 < K1) := ⟨hok, hinv, HV.out.agg, HV.out.cap, e1, by have := HV.out.n; omega, by omega⟩
      rw [hK1, e2, e3] at h11
      rw [hK1]
      obtain ⟨g1, rfl⟩ := row_head (h11.rows ⟨26, 1, .slice va K1 vc, K1, u32s (ki KF)⟩ (by simp)) HKF.out.2.2.2.2.2.2
      obtain ⟨g2, rfl⟩ := row_head (h11.rows ⟨22, 1, .slice vb K1 vd, K1, kv KF⟩ (by simp)) HKF.out.2.2.2.2.2.2
      have H11 := Lib.hid h11
      clear h11 hinv hok e1 e2 e3 hK1 hKF HS HKK HV hk0 hkn hkn2 hkn3
      go_wp2_with fail
      refine H11.out.dump.mono ?_
      rintro en w10 ⟨da, dc, db, dd, rfl, hs10, -⟩
      obtain ⟨M, hM⟩ : ∃ M, A.σ.free.length = M := ⟨_, rfl⟩
      rw [HKF.out.2.2.2.1, hM] at hs10
      rw [HKF.out.2.2.2.1, hM]
      have hs11 := hs10.box #[.slice da 4000 dc, .slice db M dd] 43
      clear hs10 H11
      go_upto_region 34 with fail
      generalize w10.alloc (.cells #[.slice da 4000 dc, .slice db M dd] 43) = w11 at hs11 ⊢
      generalize w10.heap.size = q at hs11 ⊢
      obtain ⟨rs, hrs⟩ : ∃ rs : List Row, rs = ⟨26, 1, .slice db M dd, M, u32s A.σ.free⟩ :: ⟨92, 11, .slice da 4000 dc, 4000, slotsV A⟩ :: ⟨22, 1, .slice (some ⟨g2, 0, none⟩) K1 vd, K1, kv KF⟩ :: ⟨26, 1, .slice (some ⟨g1, 0, none⟩) K1 vc, K1, u32s (ki KF)⟩ :: RS := ⟨_, rfl⟩
      rw [← hrs] at hs11
      have HRK : Hid ((⟨26, 1, .slice (some ⟨g1, 0, none⟩) K1 vc, K1, u32s (ki KF)⟩ : Row) ∈ rs) := by show _ ∈ _; rw [hrs]; simp
      have HRL : Hid ((⟨22, 1, .slice (some ⟨g2, 0, none⟩) K1 vd, K1, kv KF⟩ : Row) ∈ rs) := by show _ ∈ _; rw [hrs]; simp
      have HRS : Hid ((⟨92, 11, .slice da 4000 dc, 4000, slotsV A⟩ : Row) ∈ rs) := by show _ ∈ _; rw [hrs]; simp
      have HRR : Hid (∀ r ∈ RS, r ∈ rs) := fun r hr => by rw [hrs]; simp [hr]
      have HCK : Hid (∀ {wx : World} {C : Ar} {rdx : Int} {bs' : List (Nat × Obj)}, Scn I w.heap.size w wx (.pointer (some pa)) C rdx rs bs' → ∀ {z : Nat} {d : Kd}, KF[z]? = some d → wx.cell? ⟨g1, z, none⟩ = some (.int .u32 (d.i : Int)) ∧ wx.cell? ⟨g2, z, none⟩ = some d.v) := fun {wx C rdx bs'} h {z d} hd => by
        have hz : z < K1 := by rw [← HKF.out.2.2.2.2.1]; exact (List.getElem?_eq_some_iff.1 hd).1
        obtain ⟨g', h1, -, h2⟩ := row_cell (h.rows _ HRK.out) hz
        obtain ⟨g'', h3, -, h4⟩ := row_cell (h.rows _ HRL.out) hz
        simp at h1 h3
        subst h1 h3
        exact ⟨h2.trans (by simp [u32s, ki, hd]), h4.trans (by simp [kv, hd])⟩
      have HU : Hid (∀ {wx : World} {C : Ar} {rdx : Int} {bs' : List (Nat × Obj)}, Scn I w.heap.size w wx (.pointer (some pa)) C rdx rs bs' → U32At wx (some ⟨g1, 0, none⟩) (ki KF)) := fun {wx C rdx bs'} h => by
        have h1 := h.rows _ HRK.out
        have h2 : (ki KF).length = K1 := by rw [ki_len]; exact HKF.out.2.2.2.2.1
        rw [← h2] at h1
        exact row_u32 h1 (useq_idx HKF.out.2.1)
      have HON : Hid (∀ x ∈ ki KF, x = 0 ∨ A.σ.on x = true) := fun x hx => by
        by_cases h0 : x = 0
        · exact .inl h0
        · exact .inr (HKF.out.2.1.held x (hof_pos hx h0))
      have HS11 := Lib.hid hs11
      clear hs11 hrs
      go_wp2_with fail
      refine (HS11.out.sound HCHK.out HKF.out.2.1 HKF.out.2.2.1 (HU.out HS11.out) (by rw [ki_len]; exact HKF.out.2.2.2.2.1) (by have := HKF.out; omega) HON.out).mono ?_
      rintro en w12 ⟨rfl, hb12⟩
      have hs12 := HS11.out.calm hb12
      clear hb12 HS11
      have HR2 : Hid (∃ z : Nat, Value.int .i64 0 = .int .i64 (z : Int) ∧ z ≤ K1 ∧ Scn I w.heap.size w w12 (.pointer (some pa)) A rd rs [(q, .cells #[.slice da 4000 dc, .slice db M dd] 43 (0, 0))]) := ⟨0, rfl, Nat.zero_le _, hs12⟩
      clear hs12
      go_wp2_with fail
      go_loopw [21] (fun s wr => ∃ z : Nat, s = .int .i64 (z : Int) ∧ z ≤ K1 ∧ Scn I w.heap.size w wr (.pointer (some pa)) A rd rs [(q, .cells #[.slice da 4000 dc, .slice db M dd] 43 (0, 0))]) (fun s _ => K1 - (intOf s).toNat)
      case atStart => exact HR2.out
      case round =>
        clear HR2
        obtain ⟨z, rfl, hz, hs⟩ := hrel
        have HZ := Lib.hid hz
        have hz0 : (0 : Int) ≤ (z : Int) := by omega
        have hK61 : (K1 : Int) ≤ 61 := by have := HKF.out; omega
        have HS := Lib.hid hs
        clear hz
        by_cases hzk : z < K1
        · have hzk2 : (z : Int) < (K1 : Int) := by omega
          have hzk3 : decide ((z : Int) < (K1 : Int)) = true := decide_eq_true hzk2
          as_aux_lemma =>
            have HZK := Lib.hid hzk
            obtain ⟨⟨di, dt, dl, dv⟩, hd⟩ : ∃ x, KF[z]? = some x := ⟨_, List.getElem?_eq_getElem (by rw [HKF.out.2.2.2.2.1]; exact hzk)⟩
            have hdo := HKF.out.1 _ (List.mem_of_getElem? hd)
            obtain ⟨ya, yc, hdv⟩ := hdo.val
            obtain ⟨DL, hDL⟩ : ∃ DL, dl.length = DL := ⟨_, rfl⟩
            have hdv' : dv = .slice ya DL yc := by rw [← hDL]; exact hdv
            subst hdv'
            have HDO := Lib.hid hdo
            have HDL := Lib.hid hDL
            have HD : Hid (∀ {wx : World} {C : Ar} {rdx : Int} {bs' : List (Nat × Obj)}, Scn I w.heap.size w wx (.pointer (some pa)) C rdx rs bs' → wx.cell? ⟨g1, z, none⟩ = some (.int .u32 (di : Int)) ∧ wx.cell? ⟨g2, z, none⟩ = some (.slice ya DL yc)) := fun h => HCK.out h hd
            have HEN : Hid (∀ {wx : World} {C : Ar} {rdx : Int} {bs' : List (Nat × Obj)}, Scn I w.heap.size w wx (.pointer (some pa)) C rdx rs bs' → EnsAt wx ya dl) := fun h => ens_row (B := w.heap.size) (c := yc) HDL.out (by have := h.rows _ (HRR.out _ HDO.out.row); rw [HDL.out] at this; exact this) HDO.out.wf
            have hDL60 : DL ≤ 65536 := by rw [← hDL]; have := hdo.len; show dl.length ≤ _; have h4 : dl.length ≤ 60 := this; omega
            have HD60 := Lib.hid hDL60
            clear hd hdo hdv hDL hzk hDL60
            obtain ⟨q0, q1⟩ := two_cells (hs.boxes _ (List.mem_singleton.2 rfl)).2
            obtain ⟨u0, u1⟩ := HD.out hs
            clear hs
            go_upto_region 39 with fail
            have hSd := HS.out.calm (Below.refl _ _).drew
            go_region_held3 (fun w' => w'.cell? ⟨q, 0, none⟩ = some (.slice da 4000 dc) ∧ w'.cell? ⟨q, 1, none⟩ = some (.slice db M dd) ∧ w'.cell? ⟨g1, z, none⟩ = some (.int .u32 (di : Int)) ∧ w'.cell? ⟨g2, z, none⟩ = some (.slice ya DL yc)) (go_keep) ((go_at_call 15; refine (refTree_any HKF.out.2.1 HKF.out.2.2.2.1 (hSd.slots_of (c := dc) HKF.out.2.1 HKF.out.2.2.2.1 HRS.out) HDO.out.tree (HEN.out hSd) HDL.out HD60.out).mono ?_; rintro en wB ⟨rfl, hbB⟩; have hsB := hSd.calm hbB; obtain ⟨q0, q1⟩ := two_cells (hsB.boxes _ (List.mem_singleton.2 rfl)).2; obtain ⟨u0, u1⟩ := HD.out hsB))
            all_goals (go_wp2_with fail; exact ⟨⟨z + 1, by go_num, HZK.out, hsB⟩, by simp [intOf]; omega⟩)
        · have hzk2 : ¬ (z : Int) < (K1 : Int) := by omega
          have hzk3 : decide ((z : Int) < (K1 : Int)) = false := decide_eq_false hzk2
          have HR3 : Hid (∃ (z : Nat) (C : Ar), Value.int .i64 0 = .int .i64 (z : Int) ∧ z ≤ K1 ∧ C.Inv [] (hof ((ki KF).drop z)) ∧ C.Agg ∧ C.σ.cap = 4000 ∧ Scn I w.heap.size w wr (.pointer (some pa)) C rd rs []) := ⟨0, A, rfl, Nat.zero_le _, HKF.out.2.1, HKF.out.2.2.1, HKF.out.2.2.2.1, HS.out.less (List.Sublist.refl _) (List.nil_sublist _)⟩
          clear hs HS
          go_wp2_with fail
          go_loopw [22] (fun s wr => (∃ (z : Nat) (C : Ar), s = .int .i64 (z : Int) ∧ z ≤ K1 ∧ C.Inv [] (hof ((ki KF).drop z)) ∧ C.Agg ∧ C.σ.cap = 4000 ∧ Scn I w.heap.size w wr (.pointer (some pa)) C rd rs [])) (fun s _ => K1 - (intOf s).toNat)
          case atStart => exact HR3.out
          case round =>
            clear HR3
            as_aux_lemma =>
              obtain ⟨y, C, rfl, hy, hci, hca, hcc, hs⟩ := hrel
              have hy0 : (0 : Int) ≤ (y : Int) := by omega
              have HC : Hid (C.Inv [] (hof ((ki KF).drop y)) ∧ C.Agg ∧ C.σ.cap = 4000) := ⟨hci, hca, hcc⟩
              have HS := Lib.hid hs
              clear hci hca hcc
              by_cases hyk : y < K1
              · have hyk2 : (y : Int) < (K1 : Int) := by omega
                have hyk3 : decide ((y : Int) < (K1 : Int)) = true := decide_eq_true hyk2
                have HYK := Lib.hid hyk
                obtain ⟨⟨di, dt, dl, dv⟩, hd⟩ : ∃ x, KF[y]? = some x := ⟨_, List.getElem?_eq_getElem (by rw [HKF.out.2.2.2.2.1]; exact hyk)⟩
                obtain ⟨u0, -⟩ := HCK.out hs hd
                have u0' : wr.cell? ⟨g1, y, none⟩ = some (.int .u32 (di : Int)) := u0
                have hdr : (ki KF).drop y = di :: (ki KF).drop (y + 1) := by
                  have h1 : y < (ki KF).length := by rw [ki_len, HKF.out.2.2.2.2.1]; exact hyk
                  rw [List.drop_eq_getElem_cons h1]
                  congr 1
                  have h2 : (ki KF)[y]? = some di := by simp [ki, hd]
                  rw [List.getElem?_eq_getElem h1] at h2
                  exact Option.some.inj h2
                have hci := HC.out.1
                rw [hdr] at hci
                have HCI := Lib.hid hci
                clear u0 hd hdr hci hs hyk
                go_wp2_with fail
                refine (HS.out.release' HCI.out HC.out.2.1).mono ?_
                rintro en w13 ⟨m9, rfl, hi9, ha9, hc9, hs9⟩
                have HE : Hid (∃ (z : Nat) (C : Ar), Value.int .i64 ((y + 1 : Nat) : Int) = .int .i64 (z : Int) ∧ z ≤ K1 ∧ C.Inv [] (hof ((ki KF).drop z)) ∧ C.Agg ∧ C.σ.cap = 4000 ∧ Scn I w.heap.size w w13 (.pointer (some pa)) C rd rs []) := ⟨y + 1, C.gone di, rfl, HYK.out, hi9, ha9, hc9.trans HC.out.2.2, hs9⟩
                clear hi9 ha9 hc9 hs9
                go_wp2_with fail
                exact ⟨HE.out, by simp [intOf]; omega⟩
              · have hyk2 : ¬ (y : Int) < (K1 : Int) := by omega
                have hyk3 : decide ((y : Int) < (K1 : Int)) = false := decide_eq_false hyk2
                have hall : C.σ.free.length = 4000 := by
                  rw [← HC.out.2.2]
                  refine all_free HC.out.1.ok (none_held ?_ HC.out.2.1)
                  have := HC.out.1
                  rwa [List.drop_eq_nil_of_le (by rw [ki_len, HKF.out.2.2.2.2.1]; omega), hof_nil] at this
                have HALL := Lib.hid hall
                clear hall hs hyk
                go_wp2_with fail
                refine HS.out.free.mono ?_
                rintro en w14 ⟨rfl, hs14⟩
                rw [HALL.out]
                have HS14 := Lib.hid hs14
                clear hs14
                go_wp2_with fail
                refine HS14.out.capacity.mono ?_
                rintro en w15 ⟨rfl, hs15⟩
                rw [HC.out.2.2]
                have HB15 := Lib.hid hs15.below
                clear hs15
                go_wp2_with fail
                go_ret
                exact ⟨by simp, HB15.out⟩
end Go.Proofs.Ytckkmmdibgoajaa
