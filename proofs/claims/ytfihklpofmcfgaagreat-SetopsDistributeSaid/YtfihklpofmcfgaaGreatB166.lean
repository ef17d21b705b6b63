/- Of the proofs of SetopsAlgebra, SetopsDistribute: BkOk1, Near2, OrdAb, LkOk1. -/
import Derived.Test.YtfihklpofmcfgaaGreatB165
import Derived.Maps.AppendAt
import Derived.OwnWalk
import Derived.Deep.DeepCutAuto
set_option linter.unusedVariables false
set_option linter.unusedSimpArgs false
namespace Go.Proofs.YtfihklpofmcfgaaGreat
open Go.RowKit
set_option maxRecDepth 100000 in
theorem entryB_any (x : Nd) (w : World) : Calls Tryz.prog 109 #[.agg (ndRow x)] w (Calm w (.agg #[.int .i64 x.key, .int .i64 x.val])) := by
  have hin : (Tryz.prog.info? 69).map (·.size) = some 2 := by kernel_rfl
  have HINF := Lib.hid hin
  have HU : Hid _ := Lib.hid Tryz.underlying69
  have hb := below_new7 w (Obj.cells (ndRow x) 81)
  have hbx := heap_alloc_new w (Obj.cells (ndRow x) 81)
  clear hin
  go_enter Tryz.func109, Tryz.ntmps109
  unfold ndRow
  go_upto_region 1 with fail
  rw [show #[Value.int .i64 x.key, .int .i64 x.val, .int .u32 (x.left : Int), .int .u32 (x.right : Int), .int .i64 x.size, .int .i64 x.sum, .int .i64 x.mn, .int .i64 x.mx] = ndRow x from rfl]
  have hsz : w.heap.size < (w.alloc (Obj.cells (ndRow x) 81)).heap.size := by simp
  have hs1 : (w.alloc (Obj.cells (ndRow x) 81)).heap.size = w.heap.size + 1 := World.size_alloc _ _
  generalize w.alloc (Obj.cells (ndRow x) 81) = w2 at hb hbx hsz hs1 ⊢
  generalize hg : w.heap.size = g at hb hbx hsz hs1 ⊢
  have hb3 := below_new7 w2 (Obj.cells #[.int .i64 0, .int .i64 0] 69)
  have hr3 := heap_alloc_new w2 (Obj.cells #[.int .i64 0, .int .i64 0] 69)
  have hx3 := (hb3.block g hsz).trans hbx
  have hb4 := hb.trans (hb3.mono (Nat.le_of_lt hsz))
  (try rw [World.size_alloc])
  generalize w2.alloc (Obj.cells #[.int .i64 0, .int .i64 0] 69) = w3 at hr3 hx3 hb4 ⊢
  clear hb3
  (try rw [hg])
  rw [hs1] at hr3
  generalize hq : g + 1 = q at hr3 ⊢
  have x0 : w3.cell? ⟨g, 0, none⟩ = some (.int .i64 x.key) := by rw [cell_of_row _ _ _ _ _ _ hx3]; rfl
  have x1 : w3.cell? ⟨g, 1, none⟩ = some (.int .i64 x.val) := by rw [cell_of_row _ _ _ _ _ _ hx3]; rfl
  obtain ⟨r0, r1⟩ := two_ofE hr3
  have f0 := frozen_of_row _ _ 0 _ _ hr3
  have f1 := frozen_of_row _ _ 1 _ _ hr3
  have hgq : g ≠ q := by omega
  have HFIN : Hid (Below g w ((w3.setCell ⟨q, 0, none⟩ (.int .i64 x.key)).setCell ⟨q, 1, none⟩ (.int .i64 x.val)) ∧ ((w3.setCell ⟨q, 0, none⟩ (.int .i64 x.key)).setCell ⟨q, 1, none⟩ (.int .i64 x.val)).heap[q]? = some (.cells #[.int .i64 x.key, .int .i64 x.val] 69 (0, 0))) :=
    ⟨(hb4.setCell (by show g ≤ q; omega) _).setCell (by show g ≤ q; omega) _, by rw [heap_setCell_same _ q 1 _ _ _ (heap_setCell_same w3 q 0 _ _ _ hr3)]; rfl⟩
  have HGG := Lib.hid hg
  clear hb hbx hsz hs1 hr3 hx3 hb4 hg hq
  go_wp2_with fail
  refine bodyPost_ret (results_cell_row rfl _ _ q 69 #[.int .i64 x.key, .int .i64 x.val] (0, 0) _ rfl HFIN.out.2 HU.out rfl HINF.out) rfl ?_
  exact ⟨rfl, by rw [HGG.out]; exact HFIN.out.1⟩
/-- a row of the call's grows -/
theorem Ins.grow {I : AImpl} {w wr wx : World} {F : Nat → Prop} {p : Value} {A : Ar} {rd : Int} {rs : List Row} {bs : List (Nat × Obj)} {e : TypeId} {s n n' : Nat} {v v' : Value} {xs xs' : List Value} (h : Ins I w F p A rd (⟨e, s, v, n, xs⟩ :: rs) bs wr)
    (hr' : wx.ownsRow w.heap.size e s v' n' xs') (hg : wr.grownBy wx v.ownBlock) (hv : v'.ownBlock = v.ownBlock ∨ v'.ownBlock = some wr.heap.size) : Ins I w F p A rd (⟨e, s, v', n', xs'⟩ :: rs) bs wx := by
  obtain ⟨F1, f1, f2, f3⟩ := h.mr.has
  have hr : wr.ownsRow w.heap.size e s v n xs := h.rows ⟨e, s, v, n, xs⟩ (List.Mem.head _)
  obtain ⟨hp1, hp2⟩ := List.pairwise_cons.1 h.rr
  have hne : ∀ k, (OldI w F k ∨ SG rs bs k) → v.ownBlock ≠ some k := fun k hk e' => by
    rcases hk with hk | ⟨r, hr1, hk⟩ | ⟨b, hb, rfl⟩
    · have h1 := row_from hr k e'
      have h2 := hk.1
      omega
    · exact hp1 r hr1 k e' hk
    · exact h.rb _ (List.Mem.head _) b hb e'
  have hlt : ∀ k, (OldI w F k ∨ SG rs bs k) → k < wr.heap.size := fun k hk => (f3 k (hk.imp_right fun q => by
    rcases q with ⟨r, hr1, q⟩ | q
    · exact .inl ⟨r, List.mem_cons_of_mem _ hr1, q⟩
    · exact .inr q)).1
  have hkeep : ∀ k, (OldI w F k ∨ SG rs bs k) → wx.heap[k]? = wr.heap[k]? := fun k hk => hg.block k (hlt k hk) fun e' => hne k hk e'.symm
  have hne' : ∀ k, (OldI w F k ∨ SG rs bs k) → v'.ownBlock ≠ some k := fun k hk e' => by
    rcases hv with q | q
    · exact hne k hk (q ▸ e')
    · rw [q] at e'
      have := hlt k hk
      have e2 := Option.some.inj e'
      omega
  refine ⟨⟨⟨F1, I.keep f1 fun k hk => hg.block k (I.dom f1 k hk) fun e' => (f3 k (.inr (.inl ⟨_, List.Mem.head _, e'.symm⟩))).2 hk, f2, fun k hk => ?_⟩, h.mr.below.grown hg (Nat.zero_le _) (fun _ _ => Nat.zero_le _), Nat.zero_le _⟩, fun k hk => (hkeep k (.inl hk)).trans (h.kp k hk), fun r hr1 => ?_, fun b hb => ⟨(h.boxes b hb).1, (hkeep b.1 (.inr (.inr ⟨b, hb, rfl⟩))).trans (h.boxes b hb).2⟩, List.pairwise_cons.2 ⟨fun r hr1 k e' e2 => hne' k (.inr (.inl ⟨r, hr1, e2⟩)) e', hp2⟩, h.bb, fun r hr1 b hb => ?_⟩
  · have hcase : (OldI w F k ∨ SG rs bs k) ∨ v'.ownBlock = some k := by
      rcases hk with hk | ⟨r, hr1, hk⟩ | hk
      · exact .inl (.inl hk)
      · rcases List.mem_cons.1 hr1 with rfl | hr1
        · exact .inr hk
        · exact .inl (.inr (.inl ⟨r, hr1, hk⟩))
      · exact .inl (.inr (.inr hk))
    rcases hcase with hk | hk
    · refine ⟨Nat.lt_of_lt_of_le (hlt k hk) hg.size, (f3 k (hk.imp_right fun q => ?_)).2⟩
      rcases q with ⟨r, hr1, q⟩ | q
      · exact .inl ⟨r, List.mem_cons_of_mem _ hr1, q⟩
      · exact .inr q
    · refine ⟨(row_lt hr' k hk).2, fun hF => ?_⟩
      rcases hv with e' | e'
      · exact (f3 k (.inr (.inl ⟨_, List.Mem.head _, e' ▸ hk⟩))).2 hF
      · rw [e'] at hk
        have := I.dom f1 k hF
        have e2 := Option.some.inj hk
        omega
  · rcases List.mem_cons.1 hr1 with rfl | hr1
    · exact hr'
    · exact row_keep (h.rows r (List.mem_cons_of_mem _ hr1)) fun k hk => hkeep k (.inr (.inl ⟨r, hr1, hk⟩))
  · rcases List.mem_cons.1 hr1 with rfl | hr1
    · exact hne' b.1 (.inr (.inr ⟨b, hb, rfl⟩))
    · exact h.rb r (List.mem_cons_of_mem _ hr1) b hb
section
variable {I : AImpl} {w wr : World} {F : Nat → Prop} {p : Value} {A : Ar} {rd : Int} {rs : List Row} {bs : List (Nat × Obj)}
/-- append of one entry to such a row -/
theorem step_append_ins {ops : Array Oper} {o : Oper} {a : Act} {K : Act → World → Prop} {Q : Exit → Act → World → Prop} {E : Prop} {n : Nat} {va : Option Addr} {vc : Nat} {D : List En} (hgd : o.guard = none) (s x : Operand)
    (ho : o.op = .call { callee := .builtin .append, args := #[s, x], argTypes := #[22, 22] })
    (hi : Ins I w F p A rd (⟨69, 2, .slice va n vc, n, ensV D⟩ :: rs) bs wr) (hs : a.eval s = .slice va n vc) (e : En) (g : Nat) (hx : a.eval x = .slice (some ⟨g, 0, none⟩) 1 1)
    (hn : ∀ j u, (enV e)[j]? = some u → wr.cell? ((⟨g, 0, none⟩ : Addr).add j) = some u) (hl : n ≤ 100000000)
    (h : ∀ va' vc' w', Ins I w F p A rd (⟨69, 2, .slice va' (n + 1) vc', n + 1, ensV (D ++ [e])⟩ :: rs) bs w' → K (a.put o.dst (.slice va' (n + 1) vc')) w') : if Region.wanted o (yielded ops a.tmps) = true then Oper.wp Tryz.prog o a wr K Q else E := by
  have hw : Region.wanted o (yielded ops a.tmps) = true := by simp [Region.wanted, hgd]
  rw [if_pos hw]
  obtain ⟨i, ji, jz0, jz1, jz2⟩ := info_parts enInfo
  have hown : wr.ownsRow w.heap.size 69 2 (.slice va n vc) n (ensV D) := hi.rows ⟨69, 2, .slice va n vc, n, ensV D⟩ (List.Mem.head _)
  obtain ⟨v', w', hr, h2, h3, h4, h5⟩ := run_append_own_at (P := Tryz.prog) (w := wr) w.heap.size 22 o.type 69 i (.agg #[.int .i64 0, .int .i64 0]) 2 16 Tryz.underlying22 ji jz0 jz1 jz2 rfl (by decide) (.slice va n vc) n (ensV D) hown ⟨g, 0, none⟩ 1 1 (enV e) rfl hn (en_one e) (by unfold maxLen; omega) (by omega) hi.size
  obtain ⟨va', vc', rfl⟩ := row_val h2
  unfold Oper.wp execOp
  simp only [ho, resolve, invoke, builtin, Sem.run_bind, Sem.run_pure, Result.andThen_ok, List.map_toArray, List.map_cons, List.map_nil, hs, hx, hr]
  refine h va' vc' w' (hi.grow (by rw [ensV_snoc]; exact h2) h3 h5)
end
def colA (p : Value) (lo hi lim : Int) (u : Nat) (s : Value) : Array Value := #[p, .int .i64 lo, .int .i64 hi, .int .i64 lim, .int .i64 (u : Int), s]
theorem cells6_of {w : World} {g : Nat} {c0 c1 c2 c3 c4 c5 : Value} {t : TypeId} (h : w.heap[g]? = some (.cells #[c0, c1, c2, c3, c4, c5] t (0, 0))) :
    (w.cell? ⟨g, 0, none⟩ = some c0 ∧ w.cell? ⟨g, 1, none⟩ = some c1 ∧ w.cell? ⟨g, 2, none⟩ = some c2 ∧ w.cell? ⟨g, 3, none⟩ = some c3 ∧ w.cell? ⟨g, 4, none⟩ = some c4 ∧ w.cell? ⟨g, 5, none⟩ = some c5) ∧ w.frozen? ⟨g, 4, none⟩ = false ∧ w.frozen? ⟨g, 5, none⟩ = false :=
  ⟨⟨by rw [cell_of_row _ _ _ _ _ _ h]; rfl, by rw [cell_of_row _ _ _ _ _ _ h]; rfl, by rw [cell_of_row _ _ _ _ _ _ h]; rfl, by rw [cell_of_row _ _ _ _ _ _ h]; rfl, by rw [cell_of_row _ _ _ _ _ _ h]; rfl, by rw [cell_of_row _ _ _ _ _ _ h]; rfl⟩, frozen_of_row _ _ _ _ _ h, frozen_of_row _ _ _ _ _ h⟩
/-- any cell of the first box is written -/
theorem Ins.cellB {I : AImpl} {w wr : World} {F : Nat → Prop} {p : Value} {A : Ar} {rd : Int} {rs : List Row} {bs : List (Nat × Obj)} {g n : Nat} {cs cs' : Array Value} {t : TypeId} (h : Ins I w F p A rd rs ((g, Obj.cells cs t (0, 0)) :: bs) wr) (x : Value) (hc : cs.setIfInBounds n x = cs') : Ins I w F p A rd rs ((g, Obj.cells cs' t (0, 0)) :: bs) (wr.setCell ⟨g, n, none⟩ x) := by
  subst hc
  exact h.set (by rw [heap_setCell_same _ _ _ _ _ _ (h.boxes _ (List.Mem.head _)).2]) ⟨rfl, rfl, rfl, by simp [World.setCell], fun k hk => heap_setCell_other _ _ _ _ hk⟩
/-- the collector in the midst: u nodes may still be read, D is taken -/
def ColS (I : AImpl) (w : World) (F : Nat → Prop) (p : Value) (A : Ar) (rs : List Row) (bs : List (Nat × Obj)) (g : Nat) (lo hi lim : Int) (rd : Int) (u n : Nat) (D : List En) (wx : World) : Prop :=
  D.length = n ∧ ∃ va vc, Ins I w F p A rd (⟨69, 2, .slice va n vc, n, ensV D⟩ :: rs) ((g, Obj.cells (colA p lo hi lim u (.slice va n vc)) 132 (0, 0)) :: bs) wx
def ColOk (I : AImpl) (t : Tr) : Prop := ∀ {w : World} {F : Nat → Prop} {p : Value} {A : Ar} {rs : List Row} {bs : List (Nat × Obj)} {g : Nat} {lo hi lim rd : Int} {u n i : Nat} {D : List En} (wr : World), ColS I w F p A rs bs g lo hi lim rd u n D wr →
    A.σ.Ok → Sub A i t → t.size ≤ u → u ≤ 65536 → n + t.size ≤ 70000 → 0 ≤ rd → rd + (t.size : Int) ≤ 2199023255552 →
    Calls Tryz.prog 88 #[.pointer (some ⟨g, 0, none⟩), .int .u32 (i : Int)] wr fun e w' => e = .returned (.tuple #[]) ∧ ∃ n', ColS I w F p A rs bs g lo hi lim (rd + (visC A.nd lo hi t (lim - (n : Int)).toNat : Int)) (u - visC A.nd lo hi t (lim - (n : Int)).toNat) n' (D ++ gotC A.nd lo hi t (lim - (n : Int)).toNat) w'
/-- nothing more is wanted -/
theorem col_full {nd : Nat → Nd} {lo hi lim : Int} {t : Tr} {n : Nat} (h : lim ≤ (n : Int)) : visC nd lo hi t (lim - (n : Int)).toNat = 0 ∧ gotC nd lo hi t (lim - (n : Int)).toNat = [] := by
  rw [show (lim - (n : Int)).toNat = 0 by omega]
  exact ⟨visC_zero nd lo hi t, gotC_zero nd lo hi t⟩
theorem gotC_size (nd : Nat → Nd) (lo hi : Int) : ∀ (t : Tr) (m : Nat), (gotC nd lo hi t m).length ≤ t.size
  | .nil, _ => Nat.le_refl _
  | .node i l r, m => by
    by_cases hm : m = 0
    · subst hm; rw [gotC_zero]; exact Nat.zero_le _
    obtain ⟨L, M, R, vl, vr, e1, e2, eL, eM, eR⟩ := visC_node nd lo hi i l r m hm
    have h1 := gotC_size nd lo hi l m
    have h2 := gotC_size nd lo hi r (m - (L + M))
    rw [e1]
    show _ ≤ l.size + r.size + 1
    rcases eL with ⟨q1, q2, q3⟩ | ⟨q1, q2, q3⟩ <;> rcases eM with ⟨q4, q5⟩ | ⟨q4, q5⟩ <;> rcases eR with ⟨q6, q7, q8⟩ | ⟨q6, q7, q8⟩ <;> omega
/-- a node's parts -/
theorem col_parts {nd : Nat → Nd} (lo hi : Int) {i : Nat} (l r : Tr) {m : Nat} {X : Nd} (hX : nd i = X) (hm : m ≠ 0) : ∃ (VL VR : Nat) (LL MM RR : List En),
    visC nd lo hi (.node i l r) m = 1 + VL + VR ∧ gotC nd lo hi (.node i l r) m = LL ++ (MM ++ RR) ∧ VL ≤ l.size ∧ VR ≤ r.size ∧ LL.length ≤ l.size ∧ MM.length ≤ 1 ∧
    (lo < X.key → VL = visC nd lo hi l m ∧ LL = gotC nd lo hi l m) ∧ (¬ lo < X.key → VL = 0 ∧ LL = []) ∧
    ((lo ≤ X.key ∧ X.key ≤ hi) ∧ LL.length < m → MM = [⟨X.key, X.val⟩]) ∧ (¬ ((lo ≤ X.key ∧ X.key ≤ hi) ∧ LL.length < m) → MM = []) ∧
    (X.key < hi → VR = visC nd lo hi r (m - (LL.length + MM.length)) ∧ RR = gotC nd lo hi r (m - (LL.length + MM.length))) ∧ (¬ X.key < hi → VR = 0 ∧ RR = []) := by
  subst hX
  obtain ⟨LL, hLL⟩ : ∃ x, lefC nd lo i (gotC nd lo hi l m) = x := ⟨_, rfl⟩
  obtain ⟨MM, hMM⟩ : ∃ x, midC nd lo hi i m LL = x := ⟨_, rfl⟩
  refine ⟨if lo < (nd i).key then visC nd lo hi l m else 0, if (nd i).key < hi then visC nd lo hi r (m - (LL.length + MM.length)) else 0, LL, MM, if (nd i).key < hi then gotC nd lo hi r (m - (LL.length + MM.length)) else [], ?_, ?_, ?_, ?_, ?_, ?_, ?_, ?_, ?_, ?_, ?_, ?_⟩
  · rw [visC, if_neg hm, hLL, hMM, List.length_append]
  · rw [gotC, if_neg hm, hLL, hMM, List.length_append]
  · have := visC_size nd lo hi l m; split <;> omega
  · have := visC_size nd lo hi r (m - (LL.length + MM.length)); split <;> omega
  · rw [← hLL]; unfold lefC; have := gotC_size nd lo hi l m; split
    · exact this
    · exact Nat.zero_le _
  · rw [← hMM]; unfold midC; split
    · exact Nat.le_refl _
    · exact Nat.zero_le _
  · intro h; rw [← hLL]; unfold lefC; rw [if_pos h, if_pos h]; exact ⟨rfl, rfl⟩
  · intro h; rw [← hLL]; unfold lefC; rw [if_neg h, if_neg h]; exact ⟨rfl, rfl⟩
  · intro h; rw [← hMM]; unfold midC; rw [if_pos h]
  · intro h; rw [← hMM]; unfold midC; rw [if_neg h]
  · intro h; rw [if_pos h, if_pos h]; exact ⟨rfl, rfl⟩
  · intro h; rw [if_neg h, if_neg h]; exact ⟨rfl, rfl⟩
theorem col_nil (nd : Nat → Nd) (lo hi : Int) (m : Nat) : visC nd lo hi .nil m = 0 ∧ gotC nd lo hi .nil m = [] := ⟨rfl, rfl⟩
set_option maxHeartbeats 16000000 in
set_option maxRecDepth 100000 in
theorem col_empty (I : AImpl) : ColOk I .nil := by
  intro w F p A rs bs g lo hi lim rd u n i D wr hS hok hsub hu1 hu2 hn h0 h1
  obtain ⟨hD, va, vc, hs⟩ := hS
  obtain ⟨pa, rfl⟩ : ∃ pa, p = .pointer (some pa) := by
    obtain ⟨F1, f1, _⟩ := hs.mr.has
    exact I.ptr f1
  obtain rfl : i = 0 := by
    cases hsub with
    | nil => rfl
  have hoff : A.σ.on 0 = false := by
    cases ho : A.σ.on 0
    · rfl
    · have := hok.on 0 ho; omega
  have HQ : Hid (visC A.nd lo hi .nil (lim - (n : Int)).toNat = 0 ∧ gotC A.nd lo hi .nil (lim - (n : Int)).toNat = [] → ∀ w', Ins I w F (.pointer (some pa)) A (rd) (⟨69, 2, .slice va n vc, n, ensV D⟩ :: rs) ((g, Obj.cells (colA (.pointer (some pa)) lo hi lim u (.slice va n vc)) 132 (0, 0)) :: bs) w' → ∃ n', ColS I w F (.pointer (some pa)) A rs bs g lo hi lim (rd + (visC A.nd lo hi .nil (lim - (n : Int)).toNat : Int)) (u - visC A.nd lo hi .nil (lim - (n : Int)).toNat) n' (D ++ gotC A.nd lo hi .nil (lim - (n : Int)).toNat) w') := fun ⟨e1, e2⟩ w' h => by
    rw [e1, e2, List.append_nil]
    refine ⟨n, hD, va, vc, ?_⟩
    rw [show rd + ((0 : Nat) : Int) = rd by omega, Nat.sub_zero]
    exact h
  have HN := Lib.hid (col_nil A.nd lo hi (lim - (n : Int)).toNat)
  have HS := Lib.hid hs
  have HOFF := Lib.hid hoff
  have HRD : Hid (0 ≤ rd ∧ rd ≤ 2199023255552) := ⟨h0, by omega⟩
  clear hok hsub hu1 hn h0 h1 hD hoff
  unfold colA at hs
  obtain ⟨⟨c0, c1, c2, c3, c4, c5⟩, f4, f5⟩ := cells6_of (hs.boxes _ (List.Mem.head _)).2
  clear hs
  go_enter Tryz.func88, Tryz.ntmps88
  by_cases hu0 : u = 0
  · have g1 : (u : Int) = 0 := by omega
    have g2 : decide ((u : Int) = 0) = true := decide_eq_true g1
    have HSD := Lib.hid (HS.out.calm (Below.refl _ _).drew)
    subst hu0
    go_wp2_with fail
    go_region
    go_wp2_with fail
    refine bodyPost_ret (results_none rfl _ _ _) rfl ?_
    exact ⟨rfl, HQ.out HN.out _ HSD.out⟩
  · have g1 : ¬ (u : Int) = 0 := by omega
    have g2 : decide ((u : Int) = 0) = false := decide_eq_false g1
    by_cases hl : lim ≤ (n : Int)
    · have g3 : decide (lim ≤ (n : Int)) = true := decide_eq_true hl
      have HFU := Lib.hid (col_full (nd := A.nd) (lo := lo) (hi := hi) (t := .nil) hl)
      clear hl
      go_wp2_with fail
      go_quiet (fail)
      rename Nat => d
      have HF : Hid (∃ n', ColS I w F (.pointer (some pa)) A rs bs g lo hi lim (rd + (visC A.nd lo hi .nil (lim - (n : Int)).toNat : Int)) (u - visC A.nd lo hi .nil (lim - (n : Int)).toNat) n' (D ++ gotC A.nd lo hi .nil (lim - (n : Int)).toNat) (wr.drewN d)) := HQ.out HFU.out _ (HS.out.calm (below_drewN (Below.refl _ _) d))
      go_wp2_with fail
      refine bodyPost_ret (results_none rfl _ _ _) rfl ?_
      exact ⟨rfl, HF.out⟩
    · have g3 : decide (lim ≤ (n : Int)) = false := decide_eq_false hl
      go_wp2_with fail
      go_quiet (fail)
      rename Nat => d
      have hs1 := HS.out.calm (below_drewN (Below.refl _ _) d)
      clear c0 c1 c2 c3 c4 c5 f4 f5 HS
      generalize wr.drewN d = w1 at hs1 ⊢
      have HS1 := Lib.hid hs1
      unfold colA at hs1
      obtain ⟨⟨c0, c1, c2, c3, c4, c5⟩, f4, f5⟩ := cells6_of (hs1.boxes _ (List.Mem.head _)).2
      clear hs1
      go_wp2_with fail
      refine (HS1.out.node_no HRD.out.1 (by have := HRD.out; omega) (by decide) HOFF.out).mono ?_
      rintro e w2 ⟨rfl, hs2⟩
      unfold ndRow
      have HS3 := Lib.hid ((hs2.box (ndRow Nd.zero) 81).less (List.Sublist.refl _) (List.sublist_cons_self _ _))
      clear hs2 HS1 c0 c1 c2 c3 c4 c5 f4 f5
      go_wp2_with fail
      refine bodyPost_ret (results_none rfl _ _ _) rfl ?_
      exact ⟨rfl, HQ.out HN.out _ HS3.out⟩
set_option maxHeartbeats 16000000 in
set_option maxRecDepth 100000 in
theorem col_node (I : AImpl) {i' : Nat} {l r : Tr} (ihl : ColOk I l) (ihr : ColOk I r) : ColOk I (.node i' l r) := by
  intro w F p A rs bs g lo hi lim rd u n i D wr hS hok hsub hu1 hu2 hn h0 h1
  obtain ⟨hD, va, vc, hs⟩ := hS
  obtain ⟨pa, rfl⟩ : ∃ pa, p = .pointer (some pa) := by
    obtain ⟨F1, f1, _⟩ := hs.mr.has
    exact I.ptr f1
  obtain ⟨rfl, hi0, hon, hsl, hsr⟩ : i' = i ∧ i ≠ 0 ∧ A.σ.on i = true ∧ Sub A (A.nd i).left l ∧ Sub A (A.nd i).right r := by
    cases hsub with
    | node _ _ _ q1 q2 q3 q4 => exact ⟨rfl, q1, q2, q3, q4⟩
  have hi4 : i' < 4294967296 := by have := hok.on i' hon; have := hok.cap2; omega
  have hsz : (Tr.node i' l r).size = l.size + r.size + 1 := rfl
  rw [hsz] at hu1 hn h1
  have HQ : Hid (visC A.nd lo hi (.node i' l r) (lim - (n : Int)).toNat = 0 ∧ gotC A.nd lo hi (.node i' l r) (lim - (n : Int)).toNat = [] → ∀ w', Ins I w F (.pointer (some pa)) A (rd) (⟨69, 2, .slice va n vc, n, ensV D⟩ :: rs) ((g, Obj.cells (colA (.pointer (some pa)) lo hi lim u (.slice va n vc)) 132 (0, 0)) :: bs) w' → ∃ n', ColS I w F (.pointer (some pa)) A rs bs g lo hi lim (rd + (visC A.nd lo hi (.node i' l r) (lim - (n : Int)).toNat : Int)) (u - visC A.nd lo hi (.node i' l r) (lim - (n : Int)).toNat) n' (D ++ gotC A.nd lo hi (.node i' l r) (lim - (n : Int)).toNat) w') := fun ⟨e1, e2⟩ w' h => by
    rw [e1, e2, List.append_nil]
    refine ⟨n, hD, va, vc, ?_⟩
    rw [show rd + ((0 : Nat) : Int) = rd by omega, Nat.sub_zero]
    exact h
  obtain ⟨X, hX⟩ : ∃ x, A.nd i' = x := ⟨_, rfl⟩
  rw [hX] at hsl hsr
  obtain ⟨u1, hu3⟩ : ∃ u1, u = u1 + 1 := ⟨u - 1, by omega⟩
  have hw4 : IntKind.i64.wrap ((u : Int) - 1) = (u1 : Int) := by rw [IntKind.wrap_i64]; omega
  have HU : Hid (u = u1 + 1 ∧ l.size + r.size ≤ u1 ∧ u1 ≤ 65536 ∧ n + l.size + r.size + 1 ≤ 70000) := ⟨hu3, by omega, by omega, by omega⟩
  have HRD : Hid (0 ≤ rd ∧ rd + (l.size : Int) + (r.size : Int) + 1 ≤ 2199023255552) := ⟨h0, by omega⟩
  have HT : Hid (A.σ.Ok ∧ A.σ.on i' = true ∧ i' < 4294967296 ∧ Sub A X.left l ∧ Sub A X.right r) := ⟨hok, hon, hi4, hsl, hsr⟩
  have HX := Lib.hid hX
  have HD := Lib.hid hD
  have HIL : Hid (ColOk I l) := @ihl
  have HIR : Hid (ColOk I r) := @ihr
  have HS := Lib.hid hs
  have g1 : ¬ (u : Int) = 0 := by omega
  have g0 : ¬ u = 0 := by omega
  have g2 : decide ((u : Int) = 0) = false := decide_eq_false g1
  clear hok hsub hu1 hu2 hn h0 h1 hD hi0 hon hsl hsr hi4 hsz hX hu3 ihl ihr
  unfold colA at hs
  obtain ⟨⟨c0, c1, c2, c3, c4, c5⟩, f4, f5⟩ := cells6_of (hs.boxes _ (List.Mem.head _)).2
  clear hs
  go_enter Tryz.func88, Tryz.ntmps88
  by_cases hl : lim ≤ (n : Int)
  · have g3 : decide (lim ≤ (n : Int)) = true := decide_eq_true hl
    have HFU := Lib.hid (col_full (nd := A.nd) (lo := lo) (hi := hi) (t := (.node i' l r)) hl)
    clear hl
    go_wp2_with fail
    go_quiet (fail)
    rename Nat => d
    have HF : Hid (∃ n', ColS I w F (.pointer (some pa)) A rs bs g lo hi lim (rd + (visC A.nd lo hi (.node i' l r) (lim - (n : Int)).toNat : Int)) (u - visC A.nd lo hi (.node i' l r) (lim - (n : Int)).toNat) n' (D ++ gotC A.nd lo hi (.node i' l r) (lim - (n : Int)).toNat) (wr.drewN d)) := HQ.out HFU.out _ (HS.out.calm (below_drewN (Below.refl _ _) d))
    go_wp2_with fail
    refine bodyPost_ret (results_none rfl _ _ _) rfl ?_
    exact ⟨rfl, HF.out⟩
  obtain ⟨m, hm⟩ : ∃ m, (lim - (n : Int)).toNat = m := ⟨_, rfl⟩
  have HM : Hid (m ≠ 0 ∧ (m : Int) = lim - (n : Int)) := ⟨by omega, by omega⟩
  rw [hm]
  have HMM := Lib.hid hm
  obtain ⟨VL, VR, LL, MM, RR, v1, v2, v3, v4, v5, v6, v7, v8, v9, v10, v11, v12⟩ := col_parts (nd := A.nd) lo hi l r (m := m) HX.out HM.out.1
  rw [v1, v2]
  have HV : Hid (VL ≤ l.size ∧ VR ≤ r.size ∧ LL.length ≤ l.size ∧ MM.length ≤ 1) := ⟨v3, v4, v5, v6⟩
  have HVL : Hid ((lo < X.key → VL = visC A.nd lo hi l m ∧ LL = gotC A.nd lo hi l m) ∧ (¬ lo < X.key → VL = 0 ∧ LL = [])) := ⟨v7, v8⟩
  have HVM : Hid (((lo ≤ X.key ∧ X.key ≤ hi) ∧ LL.length < m → MM = [⟨X.key, X.val⟩]) ∧ (¬ ((lo ≤ X.key ∧ X.key ≤ hi) ∧ LL.length < m) → MM = [])) := ⟨v9, v10⟩
  have HVR : Hid ((X.key < hi → VR = visC A.nd lo hi r (m - (LL.length + MM.length)) ∧ RR = gotC A.nd lo hi r (m - (LL.length + MM.length))) ∧ (¬ X.key < hi → VR = 0 ∧ RR = [])) := ⟨v11, v12⟩
  clear v1 v2 v3 v4 v5 v6 v7 v8 v9 v10 v11 v12
  have g3 : decide (lim ≤ (n : Int)) = false := decide_eq_false hl
  clear hl hm HQ
  go_wp2_with fail
  go_quiet (fail)
  rename Nat => d
  have hs1 := HS.out.calm (below_drewN (Below.refl _ _) d)
  clear c0 c1 c2 c3 c4 c5 f4 f5 HS
  generalize wr.drewN d = w1 at hs1 ⊢
  have HS1 := Lib.hid hs1
  unfold colA at hs1
  obtain ⟨⟨c0, c1, c2, c3, c4, c5⟩, f4, f5⟩ := cells6_of (hs1.boxes _ (List.Mem.head _)).2
  clear hs1
  go_wp2_with fail
  refine (HS1.out.node HRD.out.1 (by have := HRD.out; omega) HT.out.2.2.1 HT.out.2.1).mono ?_
  rintro e w2 ⟨rfl, hs2⟩
  rw [HX.out]
  unfold ndRow
  have hs3 := hs2.box #[Value.int .i64 X.key, .int .i64 X.val, .int .u32 (X.left : Int), .int .u32 (X.right : Int), .int .i64 X.size, .int .i64 X.sum, .int .i64 X.mn, .int .i64 X.mx] 81
  clear hs2 HS1 c0 c1 c2 c3 c4 c5 f4 f5 g0 g1 g2 g3
  go_upto_region 2 with fail
  generalize w2.alloc (Obj.cells #[Value.int .i64 X.key, .int .i64 X.val, .int .u32 (X.left : Int), .int .u32 (X.right : Int), .int .i64 X.size, .int .i64 X.sum, .int .i64 X.mn, .int .i64 X.mx] 81) = w3 at hs3 ⊢
  generalize w2.heap.size = nb at hs3 ⊢
  have hs4 := hs3.perm (List.Perm.swap _ _ _)
  have HS3 := Lib.hid hs4
  unfold colA at hs4
  obtain ⟨⟨c0, c1, c2, c3, c4, c5⟩, f4, f5⟩ := cells6_of (hs4.boxes _ (List.Mem.head _)).2
  clear hs3 hs4
  go_upto_region 4 with fail
  have hs5 := HS3.out.cellB (n := 4) (cs' := colA (.pointer (some pa)) lo hi lim u1 (.slice va n vc)) (.int .i64 (u1 : Int)) rfl
  clear c0 c1 c2 c3 c4 c5 f4 f5 HS3 hw4
  generalize w3.setCell ⟨g, 4, none⟩ (.int .i64 (u1 : Int)) = w4 at hs5 ⊢
  have HS5 := Lib.hid hs5
  unfold colA at hs5
  obtain ⟨⟨c0, c1, c2, c3, c4, c5⟩, f4, f5⟩ := cells6_of (hs5.boxes _ (List.Mem.head _)).2
  obtain ⟨⟨x0, x1, x2, x3, x4, x5, x6, x7⟩, -⟩ := row8_of (X := X) (hs5.boxes _ (List.mem_cons_of_mem _ (List.Mem.head _))).2
  clear hs5
  obtain ⟨bL, hbL⟩ : ∃ b, decide (lo < X.key) = b := ⟨_, rfl⟩
  go_quiet (fail)
  rename Nat => d
  have hs6 := HS5.out.calm (below_drewN (Below.refl _ _) d)
  clear c0 c1 c2 c3 c4 c5 f4 f5 x0 x1 x2 x3 x4 x5 x6 x7 HS5
  generalize w4.drewN d = w5 at hs6 ⊢
  have HS6 := Lib.hid hs6
  have HBL := Lib.hid hbL
  clear hs6 hbL
  go_upto_if 47 with fail
  go_cut [5] from 48 to 51 (fun s5 wx => s5 = .bool true ∧ (∃ n1, ColS I w F (.pointer (some pa)) A rs ((nb, Obj.cells #[Value.int .i64 X.key, .int .i64 X.val, .int .u32 (X.left : Int), .int .u32 (X.right : Int), .int .i64 X.size, .int .i64 X.sum, .int .i64 X.mn, .int .i64 X.mx] 81 (0, 0)) :: bs) g lo hi lim (rd + 1 + (VL : Int)) (u1 - VL) n1 (D ++ LL) wx))
  case first =>
    have hs7 := HS6.out
    obtain ⟨⟨x0, x1, x2, x3, x4, x5, x6, x7⟩, -⟩ := row8_of (X := X) (hs7.boxes _ (List.mem_cons_of_mem _ (List.Mem.head _))).2
    clear hs7
    cases bL with
    | false =>
      have HE : Hid ((∃ n1, ColS I w F (.pointer (some pa)) A rs ((nb, Obj.cells #[Value.int .i64 X.key, .int .i64 X.val, .int .u32 (X.left : Int), .int .u32 (X.right : Int), .int .i64 X.size, .int .i64 X.sum, .int .i64 X.mn, .int .i64 X.mx] 81 (0, 0)) :: bs) g lo hi lim (rd + 1 + (VL : Int)) (u1 - VL) n1 (D ++ LL) w5)) := by
        obtain ⟨e1, e2⟩ := HVL.out.2 (by have := of_decide_eq_false HBL.out; omega)
        refine ⟨n, by rw [e2, List.append_nil]; exact HD.out, va, vc, ?_⟩
        rw [e1, e2, List.append_nil, Nat.sub_zero, show rd + 1 + ((0 : Nat) : Int) = rd + 1 by omega]
        exact HS6.out
      go_wp2_with fail
      go_meet
      exact ⟨rfl, HE.out⟩
    | true =>
      go_wp2_with fail
      refine (HIL.out w5 ⟨HD.out, va, vc, HS6.out⟩ HT.out.1 HT.out.2.2.2.1 (by have := HU.out; omega) HU.out.2.2.1 (by have := HU.out; omega) (by have := HRD.out; omega) (by have := HRD.out; omega)).mono ?_
      rintro e w6 ⟨rfl, n1, hS7⟩
      rw [HMM.out] at hS7
      have HE : Hid ((∃ n1, ColS I w F (.pointer (some pa)) A rs ((nb, Obj.cells #[Value.int .i64 X.key, .int .i64 X.val, .int .u32 (X.left : Int), .int .u32 (X.right : Int), .int .i64 X.size, .int .i64 X.sum, .int .i64 X.mn, .int .i64 X.mx] 81 (0, 0)) :: bs) g lo hi lim (rd + 1 + (VL : Int)) (u1 - VL) n1 (D ++ LL) w6)) := by
        obtain ⟨e1, e2⟩ := HVL.out.1 (by have := of_decide_eq_true HBL.out; omega)
        refine ⟨n1, ?_⟩
        rw [e1, e2]
        exact hS7
      clear hS7 HS6 x0 x1 x2 x3 x4 x5 x6 x7
      go_wp2_with fail
      go_meet
      exact ⟨rfl, HE.out⟩
  case' rest =>
    obtain ⟨rfl, n1, hD1, va1, vc1, hs7⟩ := hcut
    have HN1 : Hid (n1 = n + LL.length) := by show _ = _; rw [← hD1, List.length_append, HD.out]
    have HD1 : Hid ((D ++ LL).length = n1) := hD1
    have HS7 := Lib.hid hs7
    clear hs7 hD1 HS6
    obtain ⟨bM, hbM⟩ : ∃ b, decide ((lo ≤ X.key ∧ X.key ≤ hi) ∧ (n1 : Int) < lim) = b := ⟨_, rfl⟩
    have HBM := Lib.hid hbM
    clear hbM
    go_upto_region 6 with fail
    go_cut [79] from 52 to 79 (fun s79 wx => s79 = .bool bM ∧ ∃ q, wx = wc.drewN q)
    case first =>
      have hs7 := HS7.out
      obtain ⟨⟨x0, x1, x2, x3, x4, x5, x6, x7⟩, -⟩ := row8_of (X := X) (hs7.boxes _ (List.mem_cons_of_mem _ (List.Mem.head _))).2
      unfold colA at hs7
      obtain ⟨⟨c0, c1, c2, c3, c4, c5⟩, f4, f5⟩ := cells6_of (hs7.boxes _ (List.Mem.head _)).2
      clear hs7
      by_cases hk1 : lo ≤ X.key
      · have d1 : decide (lo ≤ X.key) = true := decide_eq_true hk1
        by_cases hk2 : X.key ≤ hi
        · have d2 : decide (X.key ≤ hi) = true := decide_eq_true hk2
          obtain ⟨b3, hb3⟩ : ∃ b, decide ((n1 : Int) < lim) = b := ⟨_, rfl⟩
          have HE : Hid (bM = b3) := by
            show _ = _
            rw [← HBM.out, ← hb3, decide_eq_decide]
            exact ⟨fun q => q.2, fun q => ⟨⟨hk1, hk2⟩, q⟩⟩
          clear hk1 hk2
          go_wp2_with fail
          go_quiet (fail)
          rename Nat => d
          go_wp2_with fail
          go_meet
          exact ⟨by rw [HE.out], _, rfl⟩
        · have d2 : decide (X.key ≤ hi) = false := decide_eq_false hk2
          have HE : Hid (bM = false) := by
            show _ = _
            rw [← HBM.out, decide_eq_false_iff_not]
            exact fun q => hk2 q.1.2
          clear hk1
          go_wp2_with fail
          go_quiet (fail)
          rename Nat => d
          go_wp2_with fail
          go_meet
          exact ⟨by rw [HE.out], _, rfl⟩
      · have d1 : decide (lo ≤ X.key) = false := decide_eq_false hk1
        have HE : Hid (bM = false) := by
          show _ = _
          rw [← HBM.out, decide_eq_false_iff_not]
          exact fun q => hk1 q.1.1
        go_wp2_with fail
        go_quiet (fail)
        rename Nat => d
        go_wp2_with fail
        go_meet
        exact ⟨by rw [HE.out], _, rfl⟩
    case' rest =>
      obtain ⟨rfl, q, rfl⟩ := hcut
      have hs8 := HS7.out.calm (below_drewN (Below.refl _ _) q)
      clear HS7
      generalize wc.drewN q = w7 at hs8 ⊢
      have HS8 := Lib.hid hs8
      clear hs8
      go_upto_if 79 with fail
      go_cut [5] from 80 to 90 (fun s5 wx => s5 = .bool true ∧ (∃ n2, ColS I w F (.pointer (some pa)) A rs ((nb, Obj.cells #[Value.int .i64 X.key, .int .i64 X.val, .int .u32 (X.left : Int), .int .u32 (X.right : Int), .int .i64 X.size, .int .i64 X.sum, .int .i64 X.mn, .int .i64 X.mx] 81 (0, 0)) :: bs) g lo hi lim (rd + 1 + (VL : Int)) (u1 - VL) n2 (D ++ (LL ++ MM)) wx))
      case first =>
        have hs8 := HS8.out
        cases bM with
        | false =>
          have HE : Hid ((∃ n2, ColS I w F (.pointer (some pa)) A rs ((nb, Obj.cells #[Value.int .i64 X.key, .int .i64 X.val, .int .u32 (X.left : Int), .int .u32 (X.right : Int), .int .i64 X.size, .int .i64 X.sum, .int .i64 X.mn, .int .i64 X.mx] 81 (0, 0)) :: bs) g lo hi lim (rd + 1 + (VL : Int)) (u1 - VL) n2 (D ++ (LL ++ MM)) w7)) := by
            have e1 := HVM.out.2 (fun q => by have h1 := of_decide_eq_false HBM.out; have h2 := HM.out; have h3 := HN1.out; exact h1 ⟨q.1, by omega⟩)
            refine ⟨n1, ?_⟩
            rw [e1, List.append_nil]
            exact ⟨HD1.out, va1, vc1, hs8⟩
          clear hs8
          go_wp2_with fail
          go_meet
          exact ⟨rfl, HE.out⟩
        | true =>
          have HMM1 : Hid (MM = [⟨X.key, X.val⟩]) := HVM.out.1 (by have h1 := of_decide_eq_true HBM.out; have h2 := HM.out; have h3 := HN1.out; exact ⟨h1.1, by omega⟩)
          have HCEL : Hid (∀ {wx : World} {bx : List (Nat × Obj)} {rx : List Row}, Ins I w F (.pointer (some pa)) A (rd + 1 + (VL : Int)) rx ((g, Obj.cells (colA (.pointer (some pa)) lo hi lim (u1 - VL) (.slice va1 n1 vc1)) 132 (0, 0)) :: (nb, Obj.cells #[Value.int .i64 X.key, .int .i64 X.val, .int .u32 (X.left : Int), .int .u32 (X.right : Int), .int .i64 X.size, .int .i64 X.sum, .int .i64 X.mn, .int .i64 X.mx] 81 (0, 0)) :: bx) wx → (wx.cell? ⟨g, 5, none⟩ = some (.slice va1 n1 vc1) ∧ wx.cell? ⟨nb, 0, none⟩ = some (.int .i64 X.key) ∧ wx.cell? ⟨nb, 1, none⟩ = some (.int .i64 X.val) ∧ wx.cell? ⟨nb, 2, none⟩ = some (.int .u32 (X.left : Int)) ∧ wx.cell? ⟨nb, 3, none⟩ = some (.int .u32 (X.right : Int)) ∧ wx.cell? ⟨nb, 4, none⟩ = some (.int .i64 X.size) ∧ wx.cell? ⟨nb, 5, none⟩ = some (.int .i64 X.sum) ∧ wx.cell? ⟨nb, 6, none⟩ = some (.int .i64 X.mn) ∧ wx.cell? ⟨nb, 7, none⟩ = some (.int .i64 X.mx))) := fun {wx bx rx} hx => by
            obtain ⟨q8, -⟩ := row8_of (X := X) (hx.boxes _ (List.mem_cons_of_mem _ (List.Mem.head _))).2
            have h2 := (hx.boxes _ (List.Mem.head _)).2
            unfold colA at h2
            obtain ⟨⟨-, -, -, -, -, q5⟩, -, -⟩ := cells6_of h2
            exact ⟨q5, q8⟩
          have hsd := hs8.calm (Below.refl _ _).drew
          clear hs8 HS8
          go_upto_region 7 with fail
          refine wp_region_noPanic ?_
          refine anyG_begin (S := (fun wx => (wx.cell? ⟨g, 5, none⟩ = some (.slice va1 n1 vc1) ∧ wx.cell? ⟨nb, 0, none⟩ = some (.int .i64 X.key) ∧ wx.cell? ⟨nb, 1, none⟩ = some (.int .i64 X.val) ∧ wx.cell? ⟨nb, 2, none⟩ = some (.int .u32 (X.left : Int)) ∧ wx.cell? ⟨nb, 3, none⟩ = some (.int .u32 (X.right : Int)) ∧ wx.cell? ⟨nb, 4, none⟩ = some (.int .i64 X.size) ∧ wx.cell? ⟨nb, 5, none⟩ = some (.int .i64 X.sum) ∧ wx.cell? ⟨nb, 6, none⟩ = some (.int .i64 X.mn) ∧ wx.cell? ⟨nb, 7, none⟩ = some (.int .i64 X.mx)))) (z := 11) (by kernel_rfl) (HCEL.out hsd) (fun hHeld => ?_)
          refine anyG_tk (v := ?_) 0 80 rfl (by kernel_rfl) (Or.inl ⟨by rfl, ?_⟩) (by assumption) ?_
          rotate_left
          · intro w hSw; (try dsimp only at hSw); go_simp; try with_reducible rfl
          (try simp only [Act.put, put_s])
          refine anyG_tk (v := ?_) 1 81 rfl (by kernel_rfl) (Or.inl ⟨by rfl, ?_⟩) (by assumption) ?_
          rotate_left
          · intro w hSw; (try dsimp only at hSw); go_simp; try with_reducible rfl
          (try simp only [Act.put, put_s])
          refine anyG_tk (v := ?_) 2 82 rfl (by kernel_rfl) (Or.inl ⟨by rfl, ?_⟩) (by assumption) ?_
          rotate_left
          · intro w hSw; (try dsimp only at hSw); go_simp; try with_reducible rfl
          (try simp only [Act.put, put_s])
          refine anyG_tk (v := ?_) 3 83 rfl (by kernel_rfl) (Or.inl ⟨by rfl, ?_⟩) (by assumption) ?_
          rotate_left
          · intro w hSw; (try dsimp only at hSw); go_simp; try with_reducible rfl
          (try simp only [Act.put, put_s])
          refine anyG_tk (v := ?_) 4 84 rfl (by kernel_rfl) (Or.inl ⟨by rfl, ?_⟩) (by assumption) ?_
          rotate_left
          · intro w hSw; (try dsimp only at hSw); go_simp; try with_reducible rfl
          (try simp only [Act.put, put_s])
          refine anyG_tk (v := ?_) 5 85 rfl (by kernel_rfl) (Or.inl ⟨by rfl, ?_⟩) (by assumption) ?_
          rotate_left
          · intro w hSw; (try dsimp only at hSw); go_simp; try with_reducible rfl
          (try simp only [Act.put, put_s])
          refine anyG_one (k := 6) (o := _) (by kernel_rfl) rfl (fun KT hKT => ?_)
          go_simp
          go_at_call 109
          refine (entryB_any X _).mono ?_
          rintro eA wA ⟨rfl, hbA⟩
          have hsA := hsd.calm hbA
          try go_wp2_with fail
          refine hKT.out _ _ (HCEL.out hsA) (fun hHeld => ?_)
          clear hKT KT
          (try simp only [Act.put, put_s])
          refine anyG_one (k := 7) (o := _) (by kernel_rfl) rfl (fun KT hKT => ?_)
          go_simp
          have hsB := (hsA.box #[Value.int .i64 X.key, .int .i64 X.val] 69).perm ((List.Perm.swap _ _ _).trans ((List.Perm.swap _ _ _).cons _))
          try go_wp2_with fail
          refine hKT.out _ _ (HCEL.out hsB) (fun hHeld => ?_)
          clear hKT KT
          (try simp only [Act.put, put_s])
          refine anyG_one (k := 8) (o := _) (by kernel_rfl) rfl (fun KT hKT => ?_)
          refine step_append_ins rfl (.tmp 84) (.tmp 87) rfl hsB rfl ⟨X.key, X.val⟩ wA.heap.size rfl (by
            have h0 := (hsB.boxes (wA.heap.size, Obj.cells #[Value.int .i64 X.key, .int .i64 X.val] 69 (0, 0)) (by simp)).2
            intro j u hj
            match j, hj with
            | 0, hj => simp [enV] at hj; subst hj; exact (two_ofE h0).1
            | 1, hj => simp [enV] at hj; subst hj; exact (two_ofE h0).2) (by have := HN1.out; have := HU.out; have := HV.out; omega) (fun va2 vc2 wC hsC => ?_)
          try go_wp2_with fail
          refine hKT.out _ _ (HCEL.out hsC) (fun hHeld => ?_)
          clear hKT KT
          (try simp only [Act.put, put_s])
          refine anyG_one (k := 9) (o := _) (by kernel_rfl) rfl (fun KT hKT => ?_)
          go_simp
          try go_wp2_with fail
          refine hKT.out _ _ (HCEL.out hsC) (fun hHeld => ?_)
          clear hKT KT
          (try simp only [Act.put, put_s])
          refine anyG_one (k := 10) (o := _) (by kernel_rfl) rfl (fun KT hKT => ?_)
          go_simp
          try go_wp2_with fail
          refine hKT.out _ _ (HCEL.out hsC) (fun hHeld => ?_)
          clear hKT KT
          (try simp only [Act.put, put_s])
          refine anyG_last (o := _) (by kernel_rfl) (by kernel_rfl) rfl (fun KT hKT => ?_)
          have hc5 := (hsC.boxes _ (List.Mem.head _)).2
          unfold colA at hc5
          obtain ⟨-, -, f5⟩ := cells6_of hc5
          clear hc5
          go_simp
          have hsD := hsC.cellB (n := 5) (cs' := colA (.pointer (some pa)) lo hi lim (u1 - VL) (.slice va2 (n1 + 1) vc2)) (.slice va2 (n1 + 1) vc2) rfl
          have hsE := hsD.less (bs' := (g, Obj.cells (colA (.pointer (some pa)) lo hi lim (u1 - VL) (.slice va2 (n1 + 1) vc2)) 132 (0, 0)) :: (nb, Obj.cells #[Value.int .i64 X.key, .int .i64 X.val, .int .u32 (X.left : Int), .int .u32 (X.right : Int), .int .i64 X.size, .int .i64 X.sum, .int .i64 X.mn, .int .i64 X.mx] 81 (0, 0)) :: bs) (List.Sublist.refl _) (((List.sublist_cons_self _ _).cons_cons _).cons_cons _)
          generalize wC.setCell ⟨g, 5, none⟩ (.slice va2 (n1 + 1) vc2) = wD at hsD hsE ⊢
          refine hKT.out _ _ ?_
          clear hKT KT
          (try simp only [Act.put, put_s])
          have HE : Hid ((∃ n2, ColS I w F (.pointer (some pa)) A rs ((nb, Obj.cells #[Value.int .i64 X.key, .int .i64 X.val, .int .u32 (X.left : Int), .int .u32 (X.right : Int), .int .i64 X.size, .int .i64 X.sum, .int .i64 X.mn, .int .i64 X.mx] 81 (0, 0)) :: bs) g lo hi lim (rd + 1 + (VL : Int)) (u1 - VL) n2 (D ++ (LL ++ MM)) wD)) := by
            refine ⟨n1 + 1, ?_⟩
            rw [HMM1.out, ← List.append_assoc]
            refine ⟨by rw [List.length_append, HD1.out]; rfl, va2, vc2, ?_⟩
            exact hsE
          clear hsd hsA hsB hsC hsD hsE hHeld HCEL
          refine NoPanic.normal ?_
          go_wp2_with fail
          go_meet
          exact ⟨rfl, HE.out⟩
      case' rest =>
        obtain ⟨rfl, n2, hD2, va2, vc2, hs9⟩ := hcut
        have HN2 : Hid (n2 = n + LL.length + MM.length) := by show _ = _; rw [← hD2, List.length_append, List.length_append, HD.out]; omega
        have HD2 : Hid ((D ++ (LL ++ MM)).length = n2) := hD2
        have HS9 := Lib.hid hs9
        have hs9 := HS9.out
        obtain ⟨⟨x0, x1, x2, x3, x4, x5, x6, x7⟩, -⟩ := row8_of (X := X) (hs9.boxes _ (List.mem_cons_of_mem _ (List.Mem.head _))).2
        unfold colA at hs9
        obtain ⟨⟨c0, c1, c2, c3, c4, c5⟩, f4, f5⟩ := cells6_of (hs9.boxes _ (List.Mem.head _)).2
        clear hs9 hD2 HS8
        obtain ⟨bR, hbR⟩ : ∃ b, decide (X.key < hi) = b := ⟨_, rfl⟩
        go_upto_region 8 with fail
        go_quiet (fail)
        rename Nat => d
        have HBR := Lib.hid hbR
        clear hbR
        have hsA := HS9.out.calm (below_drewN (Below.refl _ _) d)
        clear c0 c1 c2 c3 c4 c5 f4 f5 x0 x1 x2 x3 x4 x5 x6 x7 HS9
        generalize wc.drewN d = w9 at hsA ⊢
        obtain ⟨⟨x0, x1, x2, x3, x4, x5, x6, x7⟩, -⟩ := row8_of (X := X) (hsA.boxes _ (List.mem_cons_of_mem _ (List.Mem.head _))).2
        have HSA := Lib.hid hsA
        clear hsA
        cases bR with
        | false =>
          have HE : Hid (∃ n', ColS I w F (.pointer (some pa)) A rs bs g lo hi lim (rd + ((1 + VL + VR : Nat) : Int)) (u - (1 + VL + VR)) n' (D ++ (LL ++ (MM ++ RR))) w9) := by
            obtain ⟨e1, e2⟩ := HVR.out.2 (by have := of_decide_eq_false HBR.out; omega)
            refine ⟨n2, ?_⟩
            rw [e1, e2, List.append_nil, show rd + ((1 + VL + 0 : Nat) : Int) = rd + 1 + (VL : Int) by omega, show u - (1 + VL + 0) = u1 - VL by have := HU.out; omega]
            exact ⟨HD2.out, va2, vc2, HSA.out.less (List.Sublist.refl _) ((List.sublist_cons_self _ _).cons_cons _)⟩
          go_wp2_with fail
          go_end0
          exact ⟨rfl, HE.out⟩
        | true =>
          go_wp2_with fail
          refine (HIR.out w9 ⟨HD2.out, va2, vc2, HSA.out⟩ HT.out.1 HT.out.2.2.2.2 (by have := HU.out; have := HV.out; omega) (by have := HU.out; omega) (by have := HU.out; have := HV.out; have := HN2.out; omega) (by have := HRD.out; omega) (by have := HRD.out; have := HV.out; omega)).mono ?_
          rintro e wE ⟨rfl, n3, hSE⟩
          rw [show (lim - (n2 : Int)).toNat = m - (LL.length + MM.length) by have h1 := HN2.out; have h2 := HM.out; omega] at hSE
          have HE : Hid (∃ n', ColS I w F (.pointer (some pa)) A rs bs g lo hi lim (rd + ((1 + VL + VR : Nat) : Int)) (u - (1 + VL + VR)) n' (D ++ (LL ++ (MM ++ RR))) wE) := by
            obtain ⟨e1, e2⟩ := HVR.out.1 (by have := of_decide_eq_true HBR.out; omega)
            obtain ⟨q1, va3, vc3, q2⟩ := hSE
            rw [← e1] at q2
            rw [← e2] at q1 q2
            refine ⟨n3, ?_⟩
            rw [show rd + ((1 + VL + VR : Nat) : Int) = rd + 1 + (VL : Int) + (VR : Int) by omega, show u - (1 + VL + VR) = u1 - VL - VR by have := HU.out; omega, show D ++ (LL ++ (MM ++ RR)) = D ++ (LL ++ MM) ++ RR by simp only [List.append_assoc]]
            exact ⟨q1, va3, vc3, q2.less (List.Sublist.refl _) ((List.sublist_cons_self _ _).cons_cons _)⟩
          clear hSE HSA x0 x1 x2 x3 x4 x5 x6 x7
          go_wp2_with fail
          go_end0
          exact ⟨rfl, HE.out⟩
theorem col_all (I : AImpl) : ∀ t, ColOk I t
  | .nil => col_empty I
  | .node _ l r => col_node I (col_all I l) (col_all I r)
end Go.Proofs.YtfihklpofmcfgaaGreat
namespace Go.Proofs.YtfihklpofmcfgaaGreat
def ndE (x : Nd) : En := ⟨x.key, x.val⟩
def bef (nd : Nat → Nd) (k : Int) : Tr → Option En → Option En
  | .nil, o => o
  | .node i l r, o => if (nd i).key < k then bef nd k r (some (ndE (nd i))) else bef nd k l o
def aft (nd : Nat → Nd) (k : Int) : Tr → Option En → Option En
  | .nil, o => o
  | .node i l r, o => if (nd i).key < k then aft nd k r o else aft nd k l (some (ndE (nd i)))
def getT (nd : Nat → Nd) (k : Int) : Tr → Option En
  | .nil => none
  | .node i l r => if k = (nd i).key then some (ndE (nd i)) else if k < (nd i).key then getT nd k l else getT nd k r
theorem bef_spec (nd : Nat → Nd) (k : Int) : ∀ (t : Tr) (o : Option En), Up (t.ents nd) → bef nd k t o = (belowE (t.ents nd) k).or o
  | .nil, o, h => by unfold bef; show o = (belowE [] k).or o; rfl
  | .node i l r, o, h => by
    rw [Tr.ents_node] at h ⊢
    obtain ⟨h1, h2, _, _⟩ := up_app h
    rw [below_node h k]
    unfold bef
    by_cases hk : (nd i).key < k
    · rw [if_pos hk, if_pos hk, bef_spec nd k r _ h2, Option.or_assoc]; rfl
    · rw [if_neg hk, if_neg hk, bef_spec nd k l _ h1]
theorem aft_spec (nd : Nat → Nd) (k : Int) : ∀ (t : Tr) (o : Option En), Up (t.ents nd) → aft nd k t o = (ceilE (t.ents nd) k).or o
  | .nil, o, h => by unfold aft; show o = (ceilE [] k).or o; rfl
  | .node i l r, o, h => by
    rw [Tr.ents_node] at h ⊢
    obtain ⟨h1, h2, _, _⟩ := up_app h
    rw [ceil_node h k]
    unfold aft
    by_cases hk : (nd i).key < k
    · rw [if_pos hk, if_pos hk, aft_spec nd k r _ h2]
    · rw [if_neg hk, if_neg hk, aft_spec nd k l _ h1, Option.or_assoc]; rfl
theorem getT_spec (nd : Nat → Nd) (k : Int) : ∀ t : Tr, Up (t.ents nd) → getT nd k t = getE (t.ents nd) k
  | .nil, h => rfl
  | .node i l r, h => by
    rw [Tr.ents_node] at h ⊢
    obtain ⟨h1, h2, _, _⟩ := up_app h
    rw [get_node h k]
    unfold getT
    rw [getT_spec nd k l h1, getT_spec nd k r h2]
    rfl
/-- a tree in order has no more nodes than slots are allocated -/
theorem ord_above {A : Ar} (hok : A.σ.Ok) {i : Nat} {t : Tr} (h : Sub A i t) : ∀ {s s' : Option Int}, ordT A.nd t s = some s' → A.above s' + t.size ≤ A.above s := by
  induction h with
  | nil =>
    intro s s' h
    cases h
    simp [Tr.size]
  | node i l r h0 h1 hl hr ihl ihr =>
    intro s s' h
    unfold ordT at h
    show A.above s' + (l.size + r.size + 1) ≤ _
    cases hL : ordT A.nd l s with
    | none => rw [hL] at h; cases h
    | some s1 =>
      rw [hL] at h
      have e1 := ihl hL
      cases s1 with
      | none =>
        have e2 := ihr h
        have e3 := A.above_step (s := none) hok h1 (fun k hk => by cases hk)
        omega
      | some k =>
        by_cases hle : (A.nd i).key ≤ k
        · simp only [if_pos hle] at h; cases h
        · simp only [if_neg hle] at h
          have e2 := ihr h
          have e3 := A.above_step (s := some k) hok h1 (fun k' hk => by cases hk; omega)
          omega
theorem above_free {A : Ar} (hok : A.σ.Ok) : A.above none + A.σ.free.length ≤ A.σ.cap := by
  have h := St.nodup_le A.σ.cap (((List.range' 1 A.σ.cap).filter fun i => A.σ.on i && true) ++ A.σ.free) (by
    rw [List.nodup_append]
    refine ⟨List.Pairwise.filter _ List.nodup_range', hok.nodup, fun x hx y hy hxy => ?_⟩
    subst hxy
    have h1 := (hok.free x).1 hy
    have h2 := (List.mem_filter.1 hx).2
    rw [h1.2.2] at h2
    cases h2) (fun x hx => by
    rcases List.mem_append.1 hx with hx | hx
    · have := List.mem_range'_1.1 (List.mem_filter.1 hx).1
      omega
    · have := (hok.free x).1 hx
      omega)
  rw [List.length_append] at h
  exact h
open Go.RowKit
/-- what lay there and is none of the arena's -/
def OldG (w : World) (F : Nat → Prop) (k : Nat) : Prop := k < w.heap.size ∧ ¬ F k
/-- inside a call that began in w: the arena, what lay there, and boxes X -/
structure In (I : AImpl) (w : World) (F : Nat → Prop) (p : Value) (A : Ar) (rd : Int) (X : Nat → Prop) (wr : World) : Prop where
  mr : MR I 0 w wr p A rd (fun k => OldG w F k ∨ X k)
  kp : Keeps (OldG w F) w wr
section
variable {I : AImpl} {w wr wx : World} {F : Nat → Prop} {p : Value} {A : Ar} {rd : Int} {X : Nat → Prop}
theorem In.start (h : I.Is w p A rd F) : In I w F p A rd (fun _ => False) w :=
  ⟨⟨⟨F, h, fun _ _ => Nat.zero_le _, fun k hk => by (rcases hk with hk | hk; exact hk; exact hk.elim)⟩, Below.refl _ _, Nat.zero_le _⟩, fun _ _ => rfl⟩
theorem In.calm (h : In I w F p A rd X wr) (hb : Below wr.heap.size wr wx) : In I w F p A rd X wx := ⟨h.mr.calm hb, fun k hk => (h.mr.keeps hb k (.inl hk)).trans (h.kp k hk)⟩
theorem In.keeps (h : In I w F p A rd X wr) (hb : Below wr.heap.size wr wx) : Keeps X wr wx := fun k hk => h.mr.keeps hb k (.inr hk)
theorem In.alloc (h : In I w F p A rd X wr) (o : Obj) : In I w F p A rd (fun k => X k ∨ k = wr.heap.size) (wr.alloc o) :=
  ⟨(h.mr.alloc o).less fun k hk => by (rcases hk with hk | hk | hk; exact .inl (.inl hk); exact .inl (.inr hk); exact .inr hk), (h.calm (below_new7 wr o)).kp⟩
theorem In.less {Y : Nat → Prop} (h : In I w F p A rd X wr) (hY : ∀ k, Y k → X k) : In I w F p A rd Y wr := ⟨h.mr.less fun k hk => hk.imp_right (hY k), h.kp⟩
theorem In.node (h : In I w F p A rd X wr) (h0 : 0 ≤ rd) (h1 : rd ≤ 4398046511104) {i : Nat} (hi : i < 4294967296) (hon : A.σ.on i = true) :
    Calls Tryz.prog 95 #[p, .int .u32 (i : Int)] wr fun e w' => e = .returned (.tuple #[.agg (ndRow (A.nd i)), .bool true]) ∧ In I w F p A (rd + 1) X w' ∧ Keeps X wr w' := by
  obtain ⟨F1, f1, f2, f3⟩ := h.mr.has
  refine (I.node p A rd F1 i wr f1 h0 (by omega) hi).mono ?_
  rintro e w1 ⟨F', hal, _, h6⟩
  obtain ⟨rfl, h7⟩ := h6 hon
  have hst := h.mr.step f2 f3 hal h7
  exact ⟨rfl, ⟨hst.1, fun k hk => (hst.2 k (.inl hk)).trans (h.kp k hk)⟩, fun k hk => hst.2 k (.inr hk)⟩
theorem In.off (h : In I w F p A rd X wr) (h0 : 0 ≤ rd) (h1 : rd ≤ 4398046511104) :
    Calls Tryz.prog 95 #[p, .int .u32 0] wr fun e w' => e = .returned (.tuple #[.agg (ndRow Nd.zero), .bool false]) ∧ In I w F p A rd X w' ∧ Keeps X wr w' := by
  obtain ⟨F1, f1, f2, f3⟩ := h.mr.has
  have hon : A.σ.on 0 = false := by
    cases hc : A.σ.on 0 with
    | false => rfl
    | true => have := (I.ok f1).on 0 hc; omega
  refine (I.node p A rd F1 0 wr f1 h0 (by omega) (by omega)).mono ?_
  rintro e w1 ⟨F', hal, h6, _⟩
  obtain ⟨rfl, h7⟩ := h6 hon
  have hst := h.mr.step f2 f3 hal h7
  exact ⟨rfl, ⟨hst.1, fun k hk => (hst.2 k (.inl hk)).trans (h.kp k hk)⟩, fun k hk => hst.2 k (.inr hk)⟩
theorem In.ends {rd0 bd : Int} {v : Value} (h : In I w F p A rd X wr) (h0 : rd0 ≤ rd) (h1 : rd ≤ rd0 + bd) : ReadsTo I p A rd0 F bd v w (.returned v) wr := by
  obtain ⟨F', f1, f2, f3⟩ := h.mr.has
  refine ⟨F', rd, rfl, ⟨h.mr.below.os, h.mr.below.tape, h.mr.below.output, h.mr.below.size, fun k hlt hF => h.kp k ⟨hlt, hF⟩, fun k hF' => ?_⟩, f1, h0, h1⟩
  by_cases hlt : k < w.heap.size
  · by_cases hF : F k
    · exact .inl hF
    · exact absurd hF' (f3 k (.inl ⟨hlt, hF⟩)).2
  · exact .inr (by omega)
end
theorem TreeAt.bound {A : Ar} {i : Nat} {t : Tr} {l : List En} (h : TreeAt A i t l) : (t.ht : Int) ≤ mostI l.length ∧ t.ht ≤ 65536 := by
  obtain ⟨held, hv⟩ := h.inv
  have h1 := h.sub.ht_cap hv.ok h.agg
  have h2 := hv.ok.cap2
  have h3 : l.length ≤ 2147483647 := by
    rw [← h.size]
    have := h.sub.size h.agg
    cases h.sub with
    | nil => simp [Tr.size]
    | node i l r h0 hon _ _ =>
      have h4 := (h.agg.size i hon).2
      unfold Ar.sz at this
      rw [if_neg h0] at this
      omega
  have h4 := h.ht h3
  unfold mostI
  exact ⟨by omega, by omega⟩
/-- a tree has no more nodes than slots are allocated -/
theorem TreeAt.held {A : Ar} {i : Nat} {t : Tr} {l : List En} (h : TreeAt A i t l) : t.size + A.σ.free.length ≤ A.σ.cap := by
  obtain ⟨held, hv⟩ := h.inv
  have hu : Asc none (t.keys A.nd) := by rw [Tr.ents_keys, h.ents]; exact up_asc l none h.up (fun k hk => by cases hk)
  have h1 := ord_above hv.ok h.sub ((ordT_spec A.nd t none).1 hu)
  have h2 := above_free hv.ok
  omega
theorem longest_any (I : AImpl) {p : Value} {A : Ar} {rd : Int} {F : Nat → Prop} {U : Nat} (w : World) (hI : I.Is w p A rd F) (hU : U + A.σ.free.length = A.σ.cap) :
    Calls Tryz.prog 94 #[p] w (Calm w (.int .i64 (U : Int))) := by
  obtain ⟨pa, rfl⟩ := I.ptr hI
  have hcap := (I.ok hI).cap2
  have hw64 : IntKind.i64.wrap ((A.σ.cap : Int) - (A.σ.free.length : Int)) = (U : Int) := by rw [IntKind.wrap_i64]; omega
  have HCP : Hid (∀ w', Below w.heap.size w w' → Calls Tryz.prog 81 #[.pointer (some pa)] w' (Quiet w' (.int .i64 (A.σ.cap : Int)))) := fun w' hb => I.capacity _ _ _ _ _ (I.below hI hb)
  have HFR : Hid (∀ w', Below w.heap.size w w' → Calls Tryz.prog 51 #[.pointer (some pa)] w' (Quiet w' (.int .i64 (A.σ.free.length : Int)))) := fun w' hb => I.freeN _ _ _ _ _ (I.below hI hb)
  clear hI hU hcap
  go_enter Tryz.func94, Tryz.ntmps94
  go_wp2_with fail
  refine (HCP.out w (Below.refl _ _)).mono ?_
  rintro e w2 ⟨rfl, n2, hn2⟩
  have hb2 : Below w.heap.size w w2 := by rw [hn2]; exact below_drewN (Below.refl _ _) n2
  clear hn2
  go_wp2_with fail
  refine (HFR.out w2 hb2).mono ?_
  rintro e w3 ⟨rfl, n3, hn3⟩
  have hb3 : Below w.heap.size w w3 := hb2.trans ((by rw [hn3]; exact below_drewN (Below.refl _ _) n3 : Below w2.heap.size w2 w3).mono hb2.size)
  have HB3 := Lib.hid hb3
  clear hn3 hb2 hb3 HCP HFR
  go_wp2_with fail
  go_ret
  exact ⟨rfl, HB3.out⟩
/-- the child below which a key can be -/
def twd (x : Nd) (k : Int) : Nat := if k < x.key then x.left else x.right
set_option maxRecDepth 100000 in
theorem towards_any (x : Nd) (k : Int) (w : World) : Calls Tryz.prog 96 #[.agg (ndRow x), .int .i64 k] w (Calm w (.int .u32 (twd x k : Int))) := by
  have hb := below_new7 w (Obj.cells (ndRow x) 81)
  have hbx := heap_alloc_new w (Obj.cells (ndRow x) 81)
  go_enter Tryz.func96, Tryz.ntmps96
  unfold ndRow
  go_upto_region 1 with fail
  rw [show #[Value.int .i64 x.key, .int .i64 x.val, .int .u32 (x.left : Int), .int .u32 (x.right : Int), .int .i64 x.size, .int .i64 x.sum, .int .i64 x.mn, .int .i64 x.mx] = ndRow x from rfl]
  generalize w.alloc (Obj.cells (ndRow x) 81) = w2 at hb hbx ⊢
  generalize hg : w.heap.size = g at hb hbx ⊢
  have x0 : w2.cell? ⟨g, 0, none⟩ = some (.int .i64 x.key) := by rw [cell_of_row _ _ _ _ _ _ hbx]; rfl
  have x2 : w2.cell? ⟨g, 2, none⟩ = some (.int .u32 (x.left : Int)) := by rw [cell_of_row _ _ _ _ _ _ hbx]; rfl
  have x3 : w2.cell? ⟨g, 3, none⟩ = some (.int .u32 (x.right : Int)) := by rw [cell_of_row _ _ _ _ _ _ hbx]; rfl
  have HB := Lib.hid hb
  have HGG := Lib.hid hg
  clear hb hbx hg
  by_cases hkl : k < x.key
  · have hlt : decide (k < x.key) = true := decide_eq_true hkl
    have HE : Hid (Calm w (.int .u32 (twd x k : Int)) (.returned (.int .u32 (x.left : Int))) w2) := ⟨by rw [show twd x k = x.left from if_pos hkl], by rw [HGG.out]; exact HB.out⟩
    clear hkl
    go_wp2_with fail
    go_ret
    exact HE.out
  · have hlt : decide (k < x.key) = false := decide_eq_false hkl
    have HE : Hid (Calm w (.int .u32 (twd x k : Int)) (.returned (.int .u32 (x.right : Int))) w2) := ⟨by rw [show twd x k = x.right from if_neg hkl], by rw [HGG.out]; exact HB.out⟩
    clear hkl
    go_wp2_with fail
    go_ret
    exact HE.out
def WayM (I : AImpl) (w : World) (F : Nat → Prop) (p : Value) (A : Ar) (rd0 k : Int) (R : Option En) (top : Int) (U : Nat) (x c : Value) (wr : World) : Prop :=
  ∃ (i n : Nat) (u : Tr) (rd : Int), x = .int .u32 (i : Int) ∧ c = .int .i64 (n : Int) ∧ Sub A i u ∧ getT A.nd k u = R ∧ rd0 ≤ rd ∧ rd + (u.ht : Int) ≤ top ∧ n + u.size ≤ U ∧ In I w F p A rd (fun _ => False) wr
set_option maxHeartbeats 4000000 in
set_option maxRecDepth 100000 in
theorem getP_any (I : AImpl) {p : Value} {A : Ar} {rd : Int} {F : Nat → Prop} {i : Nat} {t : Tr} {l : List En} (k : Int) (w : World) (hI : I.Is w p A rd F) (hT : TreeAt A i t l) (h0 : 0 ≤ rd) (h1 : rd ≤ 1099511627776) (hk : i64R k) :
    Calls Tryz.prog 67 #[p, .int .u32 (i : Int), .int .i64 k] w (ReadsTo I p A rd F (mostI l.length) (.tuple #[.int .i64 ((getE l k).elim 0 (·.val)), .bool (getE l k).isSome]) w) := by
  obtain ⟨pa, rfl⟩ := I.ptr hI
  have hb := hT.bound
  have hg : getT A.nd k t = getE l k := by rw [getT_spec A.nd k t (by rw [hT.ents]; exact hT.up), hT.ents]
  obtain ⟨R, hR⟩ : ∃ R, getE l k = R := ⟨_, rfl⟩
  rw [hR] at hg ⊢
  obtain ⟨M, hM⟩ : ∃ M, mostI l.length = M := ⟨_, rfl⟩
  rw [hM] at hb ⊢
  obtain ⟨held, hv⟩ := hT.inv
  have hcap := hv.ok.cap2
  have hhd := hT.held
  obtain ⟨U, hU⟩ : ∃ U, U + A.σ.free.length = A.σ.cap := ⟨A.σ.cap - A.σ.free.length, by omega⟩
  have HLP := Lib.hid (longest_any I w hI hU)
  have HU : Hid (U ≤ 65536 ∧ t.size ≤ U) := ⟨by omega, by omega⟩
  have HAG := Lib.hid hT.agg
  have HOK := Lib.hid hv.ok
  have HRD : Hid (0 ≤ rd ∧ rd ≤ 1099511627776 ∧ (t.ht : Int) ≤ M ∧ t.ht ≤ 65536) := ⟨h0, h1, hb.1, hb.2⟩
  have HW0 : Hid (∀ w', Below w.heap.size w w' → WayM I w F (.pointer (some pa)) A rd k R (rd + (t.ht : Int)) U (.int .u32 (i : Int)) (.int .i64 0) w') := fun w' hb' => ⟨i, 0, t, rd, rfl, rfl, hT.sub, hg, Int.le_refl _, Int.le_refl _, by omega, (In.start hI).calm hb'⟩
  clear hI hT h0 h1 hk hb hg hR hM hv hcap hhd hU
  go_enter Tryz.func67, Tryz.ntmps67
  go_wp2_with fail
  refine HLP.out.mono ?_
  rintro e w0 ⟨rfl, hb0⟩
  have HW1 := Lib.hid (HW0.out w0 hb0)
  clear hb0 HW0 HLP
  go_wp2_with fail
  go_loopw [8, 14] (fun x c wr => WayM I w F (.pointer (some pa)) A rd k R (rd + (t.ht : Int)) U x c wr) (fun _ c _ => U - (intOf c).toNat)
  case atStart => exact HW1.out
  case round =>
    clear HW1
    obtain ⟨i, n, u, rd1, rfl, rfl, hu, hg, hr0, hr1, hn, hin⟩ := hrel
    rcases Nat.lt_or_ge n U with hnu | hnu
    rotate_left
    · have hnu2 : decide ((n : Int) < (U : Int)) = false := decide_eq_false (by omega)
      have hu0 : u = .nil := by
        cases u with
        | nil => rfl
        | node i l r =>
          have : (Tr.node i l r).size = l.size + r.size + 1 := rfl
          omega
      subst hu0
      have HE : Hid (ReadsTo I (.pointer (some pa)) A rd F M (.tuple #[.int .i64 (R.elim 0 (·.val)), .bool R.isSome]) w (.returned (.tuple #[.int .i64 0, .bool false])) wr) := by
        rw [show R = none from hg.symm]
        exact hin.ends hr0 (by have := HRD.out; omega)
      have hUn : ¬ n < U := Nat.not_lt.2 hnu
      clear hu hg hr0 hr1 hin hn hnu
      go_wp2_with fail
      go_ret2
      exact HE.out
    have hnu2 : decide ((n : Int) < (U : Int)) = true := decide_eq_true (by omega)
    have hnu3 : (n : Int) < (U : Int) := by omega
    have hU4 : (U : Int) ≤ 65536 := by have := HU.out.1; omega
    have hn0 : (0 : Int) ≤ (n : Int) := by omega
    cases u with
    | nil =>
      obtain rfl : i = 0 := by
        cases hu with
        | nil => rfl
      have hRn : R = none := hg.symm
      subst hRn
      have HR1 : Hid (rd ≤ rd1 ∧ rd1 ≤ rd + (t.ht : Int)) := ⟨hr0, by have : (Tr.nil.ht : Nat) = 0 := rfl; omega⟩
      have HIN := Lib.hid hin
      clear hu hg hr0 hr1 hin hn
      go_wp2_with fail
      refine (HIN.out.off (by have := HR1.out; have := HRD.out; omega) (by have := HR1.out; have := HRD.out; omega)).mono ?_
      rintro e w1 ⟨rfl, hin1, -⟩
      have HIN1 := Lib.hid (hin1.calm (below_new7 w1 (Obj.cells (ndRow Nd.zero) 81)))
      clear hin1 HIN
      unfold ndRow
      go_upto_region 5 with fail
      rw [show #[Value.int .i64 Nd.zero.key, .int .i64 Nd.zero.val, .int .u32 (Nd.zero.left : Int), .int .u32 (Nd.zero.right : Int), .int .i64 Nd.zero.size, .int .i64 Nd.zero.sum, .int .i64 Nd.zero.mn, .int .i64 Nd.zero.mx] = ndRow Nd.zero from rfl]
      generalize w1.alloc (Obj.cells (ndRow Nd.zero) 81) = w2 at HIN1 ⊢
      have HE : Hid (ReadsTo I (.pointer (some pa)) A rd F M (.tuple #[.int .i64 ((none : Option En).elim 0 (·.val)), .bool (none : Option En).isSome]) w (.returned (.tuple #[.int .i64 0, .bool false])) w2) := HIN1.out.ends HR1.out.1 (by have := HR1.out; have := HRD.out; omega)
      clear HIN1
      go_wp2_with fail
      go_ret2
      exact HE.out
    | node i2 l2 r2 =>
      obtain ⟨rfl, h0, hon, hsl, hsr⟩ : i2 = i ∧ i ≠ 0 ∧ A.σ.on i = true ∧ Sub A (A.nd i).left l2 ∧ Sub A (A.nd i).right r2 := by
        cases hu with
        | node _ _ _ h1 h2 h3 h4 => exact ⟨rfl, h1, h2, h3, h4⟩
      have hi4 : i2 < 4294967296 := by have := HOK.out.on i2 hon; have := HOK.out.cap2; omega
      have hht : (Tr.node i2 l2 r2).ht = 1 + max l2.ht r2.ht := rfl
      rw [show (Tr.node i2 l2 r2).size = l2.size + r2.size + 1 from rfl] at hn
      have HSL := Lib.hid hsl
      have HSR := Lib.hid hsr
      have HON := Lib.hid hon
      have HI4 := Lib.hid hi4
      have HNN := Lib.hid hn
      have HR1 : Hid (rd ≤ rd1 ∧ rd1 + 1 + (l2.ht : Int) ≤ rd + (t.ht : Int) ∧ rd1 + 1 + (r2.ht : Int) ≤ rd + (t.ht : Int)) := ⟨hr0, by omega, by omega⟩
      have HIN := Lib.hid hin
      unfold getT at hg
      have HG := Lib.hid hg
      clear hu hg hr0 hr1 hin h0 hon hsl hsr hi4 hht hn
      go_wp2_with fail
      refine (HIN.out.node (by have := HR1.out; have := HRD.out; omega) (by have := HR1.out; have := HRD.out; omega) HI4.out HON.out).mono ?_
      rintro e w1 ⟨rfl, hin1, -⟩
      have HIN1 := Lib.hid hin1
      clear hin1 HIN
      unfold ndRow
      go_upto_region 5 with fail
      rw [show #[Value.int .i64 (A.nd i2).key, .int .i64 (A.nd i2).val, .int .u32 ((A.nd i2).left : Int), .int .u32 ((A.nd i2).right : Int), .int .i64 (A.nd i2).size, .int .i64 (A.nd i2).sum, .int .i64 (A.nd i2).mn, .int .i64 (A.nd i2).mx] = ndRow (A.nd i2) from rfl]
      have hin2 := HIN1.out.calm (below_new7 w1 (Obj.cells (ndRow (A.nd i2)) 81))
      have hbx := heap_alloc_new w1 (Obj.cells (ndRow (A.nd i2)) 81)
      generalize w1.alloc (Obj.cells (ndRow (A.nd i2)) 81) = w2 at hin2 hbx ⊢
      generalize w1.heap.size = g at hbx ⊢
      have x0 : w2.cell? ⟨g, 0, none⟩ = some (.int .i64 (A.nd i2).key) := by rw [cell_of_row _ _ _ _ _ _ hbx]; rfl
      have x1 : w2.cell? ⟨g, 1, none⟩ = some (.int .i64 (A.nd i2).val) := by rw [cell_of_row _ _ _ _ _ _ hbx]; rfl
      have x2 : w2.cell? ⟨g, 2, none⟩ = some (.int .u32 ((A.nd i2).left : Int)) := by rw [cell_of_row _ _ _ _ _ _ hbx]; rfl
      have x3 : w2.cell? ⟨g, 3, none⟩ = some (.int .u32 ((A.nd i2).right : Int)) := by rw [cell_of_row _ _ _ _ _ _ hbx]; rfl
      have x4 : w2.cell? ⟨g, 4, none⟩ = some (.int .i64 (A.nd i2).size) := by rw [cell_of_row _ _ _ _ _ _ hbx]; rfl
      have x5 : w2.cell? ⟨g, 5, none⟩ = some (.int .i64 (A.nd i2).sum) := by rw [cell_of_row _ _ _ _ _ _ hbx]; rfl
      have x6 : w2.cell? ⟨g, 6, none⟩ = some (.int .i64 (A.nd i2).mn) := by rw [cell_of_row _ _ _ _ _ _ hbx]; rfl
      have x7 : w2.cell? ⟨g, 7, none⟩ = some (.int .i64 (A.nd i2).mx) := by rw [cell_of_row _ _ _ _ _ _ hbx]; rfl
      have HIN2 := Lib.hid hin2
      clear hin2 hbx HIN1
      have hg := HG.out
      by_cases hke : k = (A.nd i2).key
      · have hlt : ((A.nd i2).key == k) = true := by rw [hke]; simp
        rw [if_pos hke] at hg
        have HE : Hid (ReadsTo I (.pointer (some pa)) A rd F M (.tuple #[.int .i64 (R.elim 0 (·.val)), .bool R.isSome]) w (.returned (.tuple #[.int .i64 (A.nd i2).val, .bool true])) w2) := by
          rw [← hg]
          exact HIN2.out.ends (by have := HR1.out; omega) (by have := HR1.out; have := HRD.out; omega)
        clear hke hg
        go_wp2_with fail
        go_ret2
        exact HE.out
      · have hlt : ((A.nd i2).key == k) = false := by simp; exact fun e => hke e.symm
        rw [if_neg hke] at hg
        have HT := Lib.hid (towards_any (A.nd i2) k w2)
        have HE : Hid (∀ w3, Below w2.heap.size w2 w3 → WayM I w F (.pointer (some pa)) A rd k R (rd + (t.ht : Int)) U (.int .u32 (twd (A.nd i2) k : Int)) (.int .i64 ((n + 1 : Nat) : Int)) w3) := fun w3 hb3 => by
          have := HNN.out
          by_cases hkl : k < (A.nd i2).key
          · rw [if_pos hkl] at hg
            rw [show twd (A.nd i2) k = (A.nd i2).left from if_pos hkl]
            exact ⟨_, n + 1, l2, rd1 + 1, rfl, rfl, HSL.out, hg, by have := HR1.out; omega, HR1.out.2.1, by omega, HIN2.out.calm hb3⟩
          · rw [if_neg hkl] at hg
            rw [show twd (A.nd i2) k = (A.nd i2).right from if_neg hkl]
            exact ⟨_, n + 1, r2, rd1 + 1, rfl, rfl, HSR.out, hg, by have := HR1.out; omega, HR1.out.2.2, by omega, HIN2.out.calm hb3⟩
        clear hke hg
        go_wp2_with fail
        refine HT.out.mono ?_
        rintro e w3 ⟨rfl, hb3⟩
        have HE3 := Lib.hid (HE.out w3 hb3)
        clear hb3 HE HT
        go_wp2_with fail
        exact ⟨by rw [show ((n : Int) + 1) = ((n + 1 : Nat) : Int) by omega]; exact HE3.out, by simp [intOf]; omega⟩
end Go.Proofs.YtfihklpofmcfgaaGreat
