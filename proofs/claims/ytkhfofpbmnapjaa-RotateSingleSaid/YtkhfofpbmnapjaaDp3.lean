/- append in a guarded operation. Boxes of nodes joined to a scene; a box of a scene is written. A drawn region in which three boxes are allocated in any order with a chain of calls: the orders are walked once a set of operations that have come up, not once an order. -/
import Derived.Test.YtkhfofpbmnapjaaOwn
import Derived.Test.YtkhfofpbmnapjaaScnMut
import Derived.Test.YtkhfofpbmnapjaaBox8
import Derived.Maps.AppendAt
import Derived.OwnWalk
import Derived.Deep.RegionHeld3
set_option linter.unusedVariables false
namespace Go.Proofs.Ytkhfofpbmnapjaa
open Go.RowKit
section
variable {P : Program} {w : World}
theorem wp_append_g {o : Oper} {a : Act} {K : Act → World → Prop} {Q : Exit → Act → World → Prop} (s x : Operand) (t : TypeId)
    (ho : o.op = .call { callee := .builtin .append, args := #[s, x], argTypes := #[t, t] })
    (base : Nat) (e : TypeId) (i : TypeInfo) (z : Value) (size bytes : Nat) (ht : P.underlying t = some (.slice e)) (hi : P.info? e = some i) (hz : i.zero = some z)
    (hsize : i.size = size) (hby : i.bytes = bytes) (hzs : z.cells.size = size) (hsz : 0 < size)
    (v : Value) (n : Nat) (xs : List Value) (hs : a.eval s = v) (hown : w.ownsRow base e size v n xs)
    (ad : Addr) (m c : Nat) (news : List Value) (hx : a.eval x = .slice (some ad) m c) (hl : news.length = m * size) (hnews : ∀ j u, news[j]? = some u → w.cell? (ad.add j) = some u) (h1 : ∀ u ∈ news, u.oneCell' = true)
    (h63 : n + m ≤ maxLen) (hbytes : (n + m) * bytes ≤ 140737488355328) (hbase : base ≤ w.heap.size)
    (h : ∀ v' w', w'.ownsRow base e size v' (n + m) (xs ++ news) → w.grownBy w' v.ownBlock → (v'.ownBlock = v.ownBlock ∨ v'.ownBlock = some w.heap.size) → K (a.put o.dst v') w') : o.wp P a w K Q := by
  obtain ⟨v', w', hr, h2, h3, _, h5⟩ := run_append_own_at (P := P) w base t o.type e i z size bytes ht hi hz hsize hby hzs hsz v n xs hown ad m c news hl hnews h1 h63 hbytes hbase
  unfold Oper.wp execOp
  simp only [ho, resolve, invoke, builtin, Sem.run_bind, Sem.run_pure, Result.andThen_ok, List.map_toArray, List.map_cons, List.map_nil, hs, hx, hr]
  exact h v' w' h2 h3 h5
theorem wpList_append_g {ops : Array Oper} {rest : List Oper} {o : Oper} {a : Act} {Q : Exit → Act → World → Prop} (hgd : Region.wanted o (yielded ops a.tmps) = true) (s x : Operand) (t : TypeId)
    (ho : o.op = .call { callee := .builtin .append, args := #[s, x], argTypes := #[t, t] })
    (base : Nat) (e : TypeId) (i : TypeInfo) (z : Value) (size bytes : Nat) (ht : P.underlying t = some (.slice e)) (hi : P.info? e = some i) (hz : i.zero = some z)
    (hsize : i.size = size) (hby : i.bytes = bytes) (hzs : z.cells.size = size) (hsz : 0 < size)
    (v : Value) (n : Nat) (xs : List Value) (hs : a.eval s = v) (hown : w.ownsRow base e size v n xs)
    (ad : Addr) (m c : Nat) (news : List Value) (hx : a.eval x = .slice (some ad) m c) (hl : news.length = m * size) (hnews : ∀ j u, news[j]? = some u → w.cell? (ad.add j) = some u) (h1 : ∀ u ∈ news, u.oneCell' = true)
    (h63 : n + m ≤ maxLen) (hbytes : (n + m) * bytes ≤ 140737488355328) (hbase : base ≤ w.heap.size)
    (h : ∀ v' w', w'.ownsRow base e size v' (n + m) (xs ++ news) → w.grownBy w' v.ownBlock → (v'.ownBlock = v.ownBlock ∨ v'.ownBlock = some w.heap.size) → wpList P ops Q rest (a.put o.dst v') w') : wpList P ops Q (o :: rest) a w :=
  wpList_step fun K hK => by
    rw [if_pos hgd]
    exact wp_append_g s x t ho base e i z size bytes ht hi hz hsize hby hzs hsz v n xs hs hown ad m c news hx hl hnews h1 h63 hbytes hbase fun v' w' h2 h3 h4 => hK _ _ (h v' w' h2 h3 h4)
end
end Go.Proofs.Ytkhfofpbmnapjaa
set_option linter.unusedVariables false
set_option linter.unusedSimpArgs false
namespace Go.Proofs.Ytkhfofpbmnapjaa
open Go.RowKit
section
variable {I : AImpl} {B : Nat} {w0 w w' : World} {p : Value} {A : Ar} {rd : Int} {rs : List Row} {bs : List (Nat × Obj)} {D : List (Nat × Nd)}
def bxO (d : Nat × Nd) : Nat × Obj := (d.1, Obj.cells (ndRow d.2) 40 (0, 0))
theorem Scn.addBX (h : Scn I B w0 w p A rd rs bs) (hx : BX w w' D) : Scn I B w0 w' p A rd rs (D.map bxO ++ bs) := by
  have h' := h.calm hx.below
  refine ⟨h.mr.fresh hx.below fun k hk => ?_, h'.rows, fun b hb => ?_, h.rr, List.pairwise_append.2 ⟨List.pairwise_map.2 hx.ne, h.bb, fun x hx1 y hy e => ?_⟩, fun r hr b hb => ?_⟩
  · rcases hk with hk | ⟨b, hb, rfl⟩
    · exact .inl (.inl hk)
    · rcases List.mem_append.1 hb with hb | hb
      · obtain ⟨d, hd, rfl⟩ := List.mem_map.1 hb
        exact .inr ⟨(hx.at_ d hd).1, hx.lt hd⟩
      · exact .inl (.inr ⟨b, hb, rfl⟩)
  · rcases List.mem_append.1 hb with hb | hb
    · obtain ⟨d, hd, rfl⟩ := List.mem_map.1 hb
      exact ⟨Nat.le_trans h.mr.hB (hx.at_ d hd).1, (hx.at_ d hd).2⟩
    · exact h'.boxes b hb
  · obtain ⟨d, hd, rfl⟩ := List.mem_map.1 hx1
    have h1 := (hx.at_ d hd).1
    have h2 := h.lt (.inr ⟨y, hy, rfl⟩)
    have h3 : d.1 = y.1 := e
    omega
  · rcases List.mem_append.1 hb with hb | hb
    · obtain ⟨d, hd, rfl⟩ := List.mem_map.1 hb
      intro e
      have h1 := (hx.at_ d hd).1
      have h2 := h.lt (.inl ⟨r, hr, e⟩)
      have h3 : (bxO d).1 = d.1 := rfl
      omega
    · exact h.rb r hr b hb
theorem Scn.put {g : Nat} {X Y : Nd} (h : Scn I B w0 w p A rd rs ((g, Obj.cells (ndRow X) 40 (0, 0)) :: bs)) : Scn I B w0 (put8 w g Y) p A rd rs ((g, Obj.cells (ndRow Y) 40 (0, 0)) :: bs) :=
  h.set (put8_same (h.boxes _ (List.Mem.head _)).2) ⟨(put8_below (n0 := 0) (Nat.zero_le _)).os, (put8_below (n0 := 0) (Nat.zero_le _)).tape, (put8_below (n0 := 0) (Nat.zero_le _)).output, put8_size w g Y, fun k hk => put8_other w g Y hk⟩
theorem Scn.swap {x y : Nat × Obj} (h : Scn I B w0 w p A rd rs (x :: y :: bs)) : Scn I B w0 w p A rd rs (y :: x :: bs) := h.perm (List.Perm.swap _ _ _)
theorem Scn.swap2 {x y z : Nat × Obj} (h : Scn I B w0 w p A rd rs (x :: y :: z :: bs)) : Scn I B w0 w p A rd rs (x :: z :: y :: bs) := h.perm ((List.Perm.swap _ _ _).cons _)
theorem Scn.apart {x y : Nat × Obj} (h : Scn I B w0 w p A rd rs (x :: bs)) (hy : y ∈ bs) : ¬ x.1 = y.1 ∧ ¬ y.1 = x.1 := by
  have h1 := (List.pairwise_cons.1 h.bb).1 y hy
  exact ⟨h1, fun e => h1 e.symm⟩
end
end Go.Proofs.Ytkhfofpbmnapjaa
set_option linter.unusedVariables false
set_option linter.unusedSimpArgs false
namespace Go.Proofs.Ytkhfofpbmnapjaa
open Go.RowKit
section
variable {P : Program} {md : Region.Mode} {ops : Array Oper} {Q : Exit → Act → World → Prop} {S : World → Prop}
def nones (o1 o2 o3 : Option Nat) : Nat := (if o1.isSome then 0 else 1) + (if o2.isSome then 0 else 1) + (if o3.isSome then 0 else 1)
theorem nones_zero {o1 o2 o3 : Option Nat} (h : nones o1 o2 o3 = 0) : ∃ g1 g2 g3, o1 = some g1 ∧ o2 = some g2 ∧ o3 = some g3 := by
  cases o1 <;> cases o2 <;> cases o3 <;> simp [nones] at h ⊢
theorem chain3 {n : Nat} {ci : Nat → Nat} {j1 j2 j3 : Nat} {L : Nat → Bool → Bool → Bool → Array Bool} {St : Nat → Option Nat → Option Nat → Option Nat → Act → World → Prop} {f : Nat}
    (hr : ∀ k b1 b2 b3, k ≤ n → ∀ i ∈ Region.ready md ops (L k b1 b2 b3), (k < n ∧ i = ci k) ∨ (b1 = false ∧ i = j1) ∨ (b2 = false ∧ i = j2) ∨ (b3 = false ∧ i = j3) ∨ (k = n ∧ b1 = true ∧ b2 = true ∧ b3 = true))
    (hne : ∀ k b1 b2 b3, k ≤ n → ¬ (k = n ∧ b1 = true ∧ b2 = true ∧ b3 = true) → Region.ready md ops (L k b1 b2 b3) ≠ [])
    (hc : ∀ k b1 b2 b3, k < n → (L k b1 b2 b3).setIfInBounds (ci k) true = L (k + 1) b1 b2 b3)
    (h1 : ∀ k b2 b3, k ≤ n → (L k false b2 b3).setIfInBounds j1 true = L k true b2 b3)
    (h2 : ∀ k b1 b3, k ≤ n → (L k b1 false b3).setIfInBounds j2 true = L k b1 true b3)
    (h3 : ∀ k b1 b2, k ≤ n → (L k b1 b2 false).setIfInBounds j3 true = L k b1 b2 true)
    (step : ∀ k o1 o2 o3 a w, k < n → St k o1 o2 o3 a w → wpOp P ops Q (ci k) (fun a' w' => S w' ∧ St (k + 1) o1 o2 o3 a' w') a w)
    (al1 : ∀ k o2 o3 a w, k ≤ n → St k none o2 o3 a w → wpOp P ops Q j1 (fun a' w' => S w' ∧ ∃ g, St k (some g) o2 o3 a' w') a w)
    (al2 : ∀ k o1 o3 a w, k ≤ n → St k o1 none o3 a w → wpOp P ops Q j2 (fun a' w' => S w' ∧ ∃ g, St k o1 (some g) o3 a' w') a w)
    (al3 : ∀ k o1 o2 a w, k ≤ n → St k o1 o2 none a w → wpOp P ops Q j3 (fun a' w' => S w' ∧ ∃ g, St k o1 o2 (some g) a' w') a w)
    (fin : ∀ g1 g2 g3 a w, St n (some g1) (some g2) (some g3) a w → wpAnyH P md ops Q S f (L n true true true) a w) :
    ∀ (m k : Nat) (o1 o2 o3 : Option Nat) (a : Act) (w : World), k ≤ n → m = (n - k) + nones o1 o2 o3 → St k o1 o2 o3 a w → wpAnyH P md ops Q S (f + m) (L k o1.isSome o2.isSome o3.isSome) a w
  | 0, k, o1, o2, o3, a, w, hk, hm, hS => by
    have hk2 : k = n := by omega
    subst hk2
    obtain ⟨g1, g2, g3, rfl, rfl, rfl⟩ := nones_zero (show nones o1 o2 o3 = 0 by omega)
    exact fin g1 g2 g3 a w hS
  | m + 1, k, o1, o2, o3, a, w, hk, hm, hS => by
    have hnd : ¬ (k = n ∧ o1.isSome = true ∧ o2.isSome = true ∧ o3.isSome = true) := fun ⟨q1, q2, q3, q4⟩ => by
      unfold nones at hm
      rw [q2, q3, q4, q1] at hm
      simp at hm
    refine ⟨fun h0 => absurd h0 (hne k _ _ _ hk hnd), fun i hi => ?_⟩
    rcases hr k _ _ _ hk i hi with ⟨q1, rfl⟩ | ⟨q1, rfl⟩ | ⟨q1, rfl⟩ | ⟨q1, rfl⟩ | q1
    · refine wpOp_mono (fun a' w' h => ⟨h.1, ?_⟩) (step k o1 o2 o3 a w q1 hS)
      rw [hc k _ _ _ q1]
      exact chain3 hr hne hc h1 h2 h3 step al1 al2 al3 fin m (k + 1) o1 o2 o3 a' w' q1 (by omega) h.2
    · cases o1 with
      | some g => cases q1
      | none =>
        refine wpOp_mono (fun a' w' h => ⟨h.1, ?_⟩) (al1 k o2 o3 a w hk hS)
        obtain ⟨g, hg⟩ := h.2
        rw [show (none : Option Nat).isSome = false from rfl, h1 k _ _ hk]
        exact chain3 hr hne hc h1 h2 h3 step al1 al2 al3 fin m k (some g) o2 o3 a' w' hk (by unfold nones at hm ⊢; simp at hm ⊢; omega) hg
    · cases o2 with
      | some g => cases q1
      | none =>
        refine wpOp_mono (fun a' w' h => ⟨h.1, ?_⟩) (al2 k o1 o3 a w hk hS)
        obtain ⟨g, hg⟩ := h.2
        rw [show (none : Option Nat).isSome = false from rfl, h2 k _ _ hk]
        exact chain3 hr hne hc h1 h2 h3 step al1 al2 al3 fin m k o1 (some g) o3 a' w' hk (by unfold nones at hm ⊢; simp at hm ⊢; omega) hg
    · cases o3 with
      | some g => cases q1
      | none =>
        refine wpOp_mono (fun a' w' h => ⟨h.1, ?_⟩) (al3 k o1 o2 a w hk hS)
        obtain ⟨g, hg⟩ := h.2
        rw [show (none : Option Nat).isSome = false from rfl, h3 k _ _ hk]
        exact chain3 hr hne hc h1 h2 h3 step al1 al2 al3 fin m k o1 o2 (some g) a' w' hk (by unfold nones at hm ⊢; simp at hm ⊢; omega) hg
    · exact absurd q1 hnd
theorem hr_of {n : Nat} {ci : Nat → Nat} {j1 j2 j3 : Nat} {L : Nat → Bool → Bool → Bool → Array Bool}
    (h : ∀ k b1 b2 b3, k ≤ n → (Region.ready md ops (L k b1 b2 b3)).all (fun i => (decide (k < n) && i == ci k) || (!b1 && i == j1) || (!b2 && i == j2) || (!b3 && i == j3) || (decide (k = n) && b1 && b2 && b3)) = true) :
    ∀ k b1 b2 b3, k ≤ n → ∀ i ∈ Region.ready md ops (L k b1 b2 b3), (k < n ∧ i = ci k) ∨ (b1 = false ∧ i = j1) ∨ (b2 = false ∧ i = j2) ∨ (b3 = false ∧ i = j3) ∨ (k = n ∧ b1 = true ∧ b2 = true ∧ b3 = true) := fun k b1 b2 b3 hk i hi => by
  have h1 := List.all_eq_true.1 (h k b1 b2 b3 hk) i hi
  simp only [Bool.or_eq_true, Bool.and_eq_true, decide_eq_true_eq, beq_iff_eq, Bool.not_eq_true'] at h1
  rcases h1 with (((h1 | h1) | h1) | h1) | h1
  · exact .inl h1
  · exact .inr (.inl h1)
  · exact .inr (.inr (.inl h1))
  · exact .inr (.inr (.inr (.inl h1)))
  · exact .inr (.inr (.inr (.inr ⟨h1.1.1.1, h1.1.1.2, h1.1.2, h1.2⟩))) 
theorem hne_of {n : Nat} {L : Nat → Bool → Bool → Bool → Array Bool}
    (h : ∀ k b1 b2 b3, k ≤ n → ((decide (k = n) && b1 && b2 && b3) || !(Region.ready md ops (L k b1 b2 b3)).isEmpty) = true) :
    ∀ k b1 b2 b3, k ≤ n → ¬ (k = n ∧ b1 = true ∧ b2 = true ∧ b3 = true) → Region.ready md ops (L k b1 b2 b3) ≠ [] := fun k b1 b2 b3 hk hn he => by
  have h1 := h k b1 b2 b3 hk
  rw [he] at h1
  simp only [Bool.or_eq_true, Bool.and_eq_true, decide_eq_true_eq, List.isEmpty_nil, Bool.not_true, Bool.false_eq_true, or_false] at h1
  exact hn ⟨h1.1.1.1, h1.1.1.2, h1.1.2, h1.2⟩
/-! ### with boxes of nodes -/
def pvO (o : Option Nat) (u : Value) : Value := match o with | none => u | some g => .pointer (some ⟨g, 0, none⟩)
def ls (o : Option Nat) : List (Nat × Nd) := match o with | none => [] | some g => [(g, Nd.zero)]
def canon (o1 o2 o3 : Option Nat) : List (Nat × Nd) := ls o3 ++ (ls o2 ++ ls o1)
theorem canon1 {w0 w : World} {o2 o3 : Option Nat} (h : BX w0 w (canon none o2 o3)) : BX w0 (w.alloc (.cells (ndRow Nd.zero) 40)) (canon (some w.heap.size) o2 o3) := by
  refine (h.alloc Nd.zero).perm ?_
  unfold canon
  have e : ls none = [] := rfl
  rw [e, List.append_nil]
  have e2 : ls (some w.heap.size) = [(w.heap.size, Nd.zero)] := rfl
  rw [e2, ← List.append_assoc]
  exact (List.perm_append_comm (l₁ := [(w.heap.size, Nd.zero)]))
theorem canon2 {w0 w : World} {o1 o3 : Option Nat} (h : BX w0 w (canon o1 none o3)) : BX w0 (w.alloc (.cells (ndRow Nd.zero) 40)) (canon o1 (some w.heap.size) o3) := by
  refine (h.alloc Nd.zero).perm ?_
  unfold canon
  exact List.perm_middle.symm
theorem canon3 {w0 w : World} {o1 o2 : Option Nat} (h : BX w0 w (canon o1 o2 none)) : BX w0 (w.alloc (.cells (ndRow Nd.zero) 40)) (canon o1 o2 (some w.heap.size)) := h.alloc Nd.zero
/-- the chain's values -/
def chA (a0 : Act) (dst : Nat → Tmp) (val : Nat → Value) : Nat → Act
  | 0 => a0
  | k + 1 => (chA a0 dst val k).put (some (dst k)) (val k)
def fullA (a0 : Act) (dst : Nat → Tmp) (val : Nat → Value) (d1 d2 d3 : Tmp) (u1 u2 u3 : Value) (k : Nat) (o1 o2 o3 : Option Nat) : Act :=
  (((chA a0 dst val k).put (some d1) (pvO o1 u1)).put (some d2) (pvO o2 u2)).put (some d3) (pvO o3 u3)
theorem put_comm (a : Act) {d e : Tmp} (h : d ≠ e) (x y : Value) : (a.put (some d) x).put (some e) y = (a.put (some e) y).put (some d) x := by
  simp only [Act.put]
  rw [Array.setIfInBounds_comm _ _ h]
theorem put_put (a : Act) (d : Tmp) (x y : Value) : (a.put (some d) x).put (some d) y = a.put (some d) y := by
  simp [Act.put]
theorem chA_put (a0 : Act) (dst : Nat → Tmp) (val : Nat → Value) (d1 d2 d3 : Tmp) (u1 u2 u3 : Value) (k : Nat) (o1 o2 o3 : Option Nat) (h1 : dst k ≠ d1) (h2 : dst k ≠ d2) (h3 : dst k ≠ d3) :
    (fullA a0 dst val d1 d2 d3 u1 u2 u3 k o1 o2 o3).put (some (dst k)) (val k) = fullA a0 dst val d1 d2 d3 u1 u2 u3 (k + 1) o1 o2 o3 := by
  unfold fullA
  rw [put_comm _ (Ne.symm h3), put_comm _ (Ne.symm h2), put_comm _ (Ne.symm h1)]
  rfl
/-- the region: a chain of calls that leave what lay there, and three allocs -/
theorem boxes3 {a0 : Act} {w0 w : World} {n : Nat} {ci : Nat → Nat} {dst : Nat → Tmp} {val : Nat → Value} {j1 j2 j3 : Nat} {d1 d2 d3 : Tmp} {u1 u2 u3 : Value} {L : Nat → Bool → Bool → Bool → Array Bool} {f : Nat}
    (h0 : fullA a0 dst val d1 d2 d3 u1 u2 u3 0 none none none = a0)
    (hd : ∀ k, k < n → dst k ≠ d1 ∧ dst k ≠ d2 ∧ dst k ≠ d3) (h12 : d1 ≠ d2) (h13 : d1 ≠ d3) (h23 : d2 ≠ d3)
    (hr : ∀ k b1 b2 b3, k ≤ n → ∀ i ∈ Region.ready md ops (L k b1 b2 b3), (k < n ∧ i = ci k) ∨ (b1 = false ∧ i = j1) ∨ (b2 = false ∧ i = j2) ∨ (b3 = false ∧ i = j3) ∨ (k = n ∧ b1 = true ∧ b2 = true ∧ b3 = true))
    (hne : ∀ k b1 b2 b3, k ≤ n → ¬ (k = n ∧ b1 = true ∧ b2 = true ∧ b3 = true) → Region.ready md ops (L k b1 b2 b3) ≠ [])
    (hc : ∀ k b1 b2 b3, k < n → (L k b1 b2 b3).setIfInBounds (ci k) true = L (k + 1) b1 b2 b3)
    (h1 : ∀ k b2 b3, k ≤ n → (L k false b2 b3).setIfInBounds j1 true = L k true b2 b3)
    (h2 : ∀ k b1 b3, k ≤ n → (L k b1 false b3).setIfInBounds j2 true = L k b1 true b3)
    (h3 : ∀ k b1 b2, k ≤ n → (L k b1 b2 false).setIfInBounds j3 true = L k b1 b2 true)
    (hS : ∀ w', Below w0.heap.size w0 w' → S w')
    (step : ∀ k, k < n → ∀ o1 o2 o3 w' (K : Act → World → Prop), BX w0 w' (canon o1 o2 o3) → (∀ w'', Below w'.heap.size w' w'' → K ((fullA a0 dst val d1 d2 d3 u1 u2 u3 k o1 o2 o3).put (some (dst k)) (val k)) w'') → wpOp P ops Q (ci k) K (fullA a0 dst val d1 d2 d3 u1 u2 u3 k o1 o2 o3) w')
    (al1 : ∀ (a : Act) (w' : World) (K : Act → World → Prop), K (a.put (some d1) (.pointer (some ⟨w'.heap.size, 0, none⟩))) (w'.alloc (.cells (ndRow Nd.zero) 40)) → wpOp P ops Q j1 K a w')
    (al2 : ∀ (a : Act) (w' : World) (K : Act → World → Prop), K (a.put (some d2) (.pointer (some ⟨w'.heap.size, 0, none⟩))) (w'.alloc (.cells (ndRow Nd.zero) 40)) → wpOp P ops Q j2 K a w')
    (al3 : ∀ (a : Act) (w' : World) (K : Act → World → Prop), K (a.put (some d3) (.pointer (some ⟨w'.heap.size, 0, none⟩))) (w'.alloc (.cells (ndRow Nd.zero) 40)) → wpOp P ops Q j3 K a w')
    (fin : ∀ g1 g2 g3 w', BX w0 w' [(g3, Nd.zero), (g2, Nd.zero), (g1, Nd.zero)] → wpAnyH P md ops Q S f (L n true true true) (fullA a0 dst val d1 d2 d3 u1 u2 u3 n (some g1) (some g2) (some g3)) w')
    (hw : BX w0 w []) : wpAnyH P md ops Q S (f + (n + 3)) (L 0 false false false) a0 w := by
  refine chain3 (o1 := none) (o2 := none) (o3 := none) (k := 0) (m := n + 3) (St := fun k o1 o2 o3 a w => a = fullA a0 dst val d1 d2 d3 u1 u2 u3 k o1 o2 o3 ∧ BX w0 w (canon o1 o2 o3)) hr hne hc h1 h2 h3 ?_ ?_ ?_ ?_ ?_ _ _ (Nat.zero_le n) rfl ⟨h0.symm, hw⟩
  · rintro k o1 o2 o3 a w' hk ⟨rfl, hb⟩
    refine step k hk o1 o2 o3 w' _ hb fun w'' hb2 => ?_
    have h := hb.calm hb2
    exact ⟨hS _ h.below, chA_put a0 dst val d1 d2 d3 u1 u2 u3 k o1 o2 o3 (hd k hk).1 (hd k hk).2.1 (hd k hk).2.2, h⟩
  · rintro k o2 o3 a w' hk ⟨rfl, hb⟩
    have h := canon1 hb
    refine al1 _ w' _ ⟨hS _ h.below, w'.heap.size, ?_, h⟩
    unfold fullA
    rw [put_comm _ (Ne.symm h13), put_comm _ (Ne.symm h12), put_put]
    rfl
  · rintro k o1 o3 a w' hk ⟨rfl, hb⟩
    have h := canon2 hb
    refine al2 _ w' _ ⟨hS _ h.below, w'.heap.size, ?_, h⟩
    unfold fullA
    rw [put_comm _ (Ne.symm h23), put_put]
    rfl
  · rintro k o1 o2 a w' hk ⟨rfl, hb⟩
    have h := canon3 hb
    refine al3 _ w' _ ⟨hS _ h.below, w'.heap.size, ?_, h⟩
    unfold fullA
    rw [put_put]
    rfl
  · rintro g1 g2 g3 a w' ⟨rfl, hb⟩
    exact fin g1 g2 g3 w' hb
end
end Go.Proofs.Ytkhfofpbmnapjaa
