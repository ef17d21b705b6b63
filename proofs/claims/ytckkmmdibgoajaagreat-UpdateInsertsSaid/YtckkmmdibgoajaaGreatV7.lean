/- Of the proofs of UpdateInserts, UpdateDeletes, JoinJoins, JoinConcatenates, JoinSplits: Mid, JnN, MidF, Box8, Ins, MidB. -/
import Derived.Test.YtckkmmdibgoajaaGreatV1
import Derived.Test.YtckkmmdibgoajaaGreatV2
import Derived.Test.YtckkmmdibgoajaaGreatV3
import Derived.Test.YtckkmmdibgoajaaGreatV4
import Derived.Test.YtckkmmdibgoajaaGreatV5
import Derived.Test.YtckkmmdibgoajaaGreatV6
set_option linter.unusedVariables false
namespace Go.Proofs.YtckkmmdibgoajaaGreat
/-- the caller's references and the call's own, X -/
def plL (held : Nat → Nat) (X : List Nat) : Nat → Nat := fun i => held i + hof X i
theorem plL_nil (held : Nat → Nat) : plL held [] = held := by
  funext i
  show held i + hof [] i = held i
  rw [hof_nil]
  rfl
theorem hof_cons (x : Nat) (X : List Nat) (j : Nat) : hof (x :: X) j = hof X j + (if x ≠ 0 ∧ j = x then 1 else 0) := by
  unfold hof
  by_cases h : j = 0
  · rw [if_pos h, if_pos h, if_neg (fun q => q.1 (q.2 ▸ h))]
  · rw [if_neg h, if_neg h, List.count_cons]
    by_cases e : j = x
    · subst e; rw [if_pos (by simp), if_pos ⟨h, rfl⟩]
    · rw [if_neg (by simp; exact fun q => e q.symm), if_neg (fun q => e q.2)]
theorem plL_cons (held : Nat → Nat) (x : Nat) (X : List Nat) : plL held (x :: X) = pls (plL held X) x := by
  funext j
  rw [pls_at]
  show held j + hof (x :: X) j = held j + hof X j + _
  rw [hof_cons, Nat.add_assoc]
theorem plL_le {held : Nat → Nat} {m : Nat} (h : ∀ j, held j ≤ m) (X : List Nat) (j : Nat) : plL held X j ≤ m + X.length := by
  have h1 := h j
  have h2 := hof_le X j
  show held j + hof X j ≤ _
  omega
theorem plL_perm (held : Nat → Nat) {X Y : List Nat} (h : X.Perm Y) : plL held X = plL held Y := by
  funext j
  show held j + hof X j = held j + hof Y j
  unfold hof
  rw [h.count_eq]
theorem plL_pos {held : Nat → Nat} {x : Nat} {X : List Nat} (h : x ∈ X) (h0 : x ≠ 0) : 0 < plL held X x := by
  have := hof_pos h h0
  show 0 < held x + hof X x
  omega
theorem less_plL {held : Nat → Nat} {x : Nat} {X : List Nat} (h0 : x ≠ 0) : less (plL held (x :: X)) x = plL held X := by
  rw [plL_cons]
  funext j
  unfold less pls more
  rw [if_neg h0]
  by_cases e : j = x
  · subst e; show (if j = j then _ - 1 else _) = _; rw [if_pos rfl]; show (if j = j then _ else _) - 1 = _; rw [if_pos rfl]; omega
  · show (if j = x then _ else _) = _; rw [if_neg e]; show (if j = x then _ else _) = _; rw [if_neg e]
/-- B came of A; X: the references that the call holds -/
structure Mid (A : Ar) (held : Nat → Nat) (B : Ar) (X : List Nat) : Prop where
  base : A.Inv [] held
  bagg : A.Agg
  kept : A.Kept B
  gen : ∀ i, A.σ.on i = true → B.σ.gen i = A.σ.gen i
  inv : B.Inv [] (plL held X)
  agg : B.Agg
theorem Mid.start {A : Ar} {held : Nat → Nat} (h : A.Inv [] held) (ha : A.Agg) : Mid A held A [] := ⟨h, ha, .refl A, fun _ _ => rfl, by rw [plL_nil]; exact h, ha⟩
theorem Mid.perm {A B : Ar} {held : Nat → Nat} {X Y : List Nat} (h : Mid A held B X) (hp : X.Perm Y) : Mid A held B Y := ⟨h.base, h.bagg, h.kept, h.gen, plL_perm held hp ▸ h.inv, h.agg⟩
/-- a tree, its balance and its entries -/
structure At (B : Ar) (i : Nat) (t : Tr) (l : List En) : Prop where
  sub : Sub B i t
  bal : t.bal = true
  ents : t.ents B.nd = l
theorem TreeAt.at_ {A : Ar} {i : Nat} {t : Tr} {l : List En} (h : TreeAt A i t l) : At A i t l := ⟨h.sub, h.bal, h.ents⟩
theorem At.nil (B : Ar) : At B 0 .nil [] := ⟨.nil, rfl, rfl⟩
theorem At.kept {B C : Ar} {i : Nat} {t : Tr} {l : List En} (h : At B i t l) (hk : B.Kept C) : At C i t l := ⟨h.sub.kept hk, h.bal, (Tr.ents_kept hk h.sub).trans h.ents⟩
theorem At.size {B : Ar} {i : Nat} {t : Tr} {l : List En} (h : At B i t l) : t.size = l.length := by rw [← h.ents, Tr.ents_len]
theorem At.sz {B : Ar} {i : Nat} {t : Tr} {l : List En} (h : At B i t l) (ha : B.Agg) : B.sz i = (l.length : Int) := by rw [h.sub.size ha, h.size]
theorem At.idx {B : Ar} {i : Nat} {t : Tr} {l : List En} (h : At B i t l) : B.Idx i := h.sub.idx
/-- the empty tree is 0 -/
theorem At.zero_iff {B : Ar} {held : Nat → Nat} {i : Nat} {t : Tr} {l : List En} (h : At B i t l) : i = 0 ↔ l = [] := by
  constructor
  · rintro rfl
    have := h.size
    obtain ⟨h1, _, h3⟩ := h
    cases h1 with
    | nil => exact List.eq_nil_of_length_eq_zero this.symm
    | node _ _ _ h0 => exact absurd rfl h0
  · intro e
    have := h.size
    obtain ⟨h1, _, h3⟩ := h
    cases h1 with
    | nil => rfl
    | node _ l r _ => rw [e] at this; exact absurd this (by show l.size + r.size + 1 ≠ 0; omega)
/-- weights of two trees that a node may have -/
def wbL (l m : List En) : Prop := wb (l.length + 1) (m.length + 1)
theorem bal_wb {a b : Nat} (h : Proofs.YtckkmmdibgoajaaGreat.bal (a : Int) (b : Int) = true) : wb (a + 1) (b + 1) := by
  have h1 := of_decide_eq_true h
  exact ⟨by omega, by omega⟩
theorem wb_bal {a b : Nat} (ha : a ≤ 2147483647) (hb : b ≤ 2147483647) (h : wb (a + 1) (b + 1)) : Proofs.YtckkmmdibgoajaaGreat.bal (a : Int) (b : Int) = true :=
  decide_eq_true ⟨by omega, by omega, by omega, by omega, by have := h.1; omega, by have := h.2; omega⟩
/-- the root and its children -/
theorem At.split {B : Ar} {i : Nat} {t : Tr} {l : List En} (h : At B i t l) (h0 : i ≠ 0) :
    ∃ tl tr ll lr, t = .node i tl tr ∧ l = ll ++ ⟨(B.nd i).key, (B.nd i).val⟩ :: lr ∧ At B (B.nd i).left tl ll ∧ At B (B.nd i).right tr lr ∧ wbL ll lr := by
  obtain ⟨hs, hb, he⟩ := h
  cases hs with
  | nil => exact absurd rfl h0
  | node i tl tr _ hon hl hr =>
    unfold Tr.bal at hb
    simp only [Bool.and_eq_true] at hb
    rw [Tr.ents_node] at he
    refine ⟨tl, tr, _, _, rfl, he.symm, ⟨hl, hb.1.2, rfl⟩, ⟨hr, hb.2, rfl⟩, ?_⟩
    have h1 := bal_wb hb.1.1
    unfold wbL
    rw [Tr.ents_len, Tr.ents_len]
    exact h1
/-- a node over two trees -/
theorem At.join {B : Ar} (ha : B.Agg) {i l r : Nat} {e : En} {tl tr : Tr} {ll lr : List En} (h0 : i ≠ 0) (hon : B.σ.on i = true) (hk : (B.nd i).key = e.key ∧ (B.nd i).val = e.val ∧ (B.nd i).left = l ∧ (B.nd i).right = r)
    (hl : At B l tl ll) (hr : At B r tr lr) (hw : wbL ll lr) : At B i (.node i tl tr) (ll ++ e :: lr) := by
  obtain ⟨k1, k2, k3, k4⟩ := hk
  have hs : Sub B i (.node i tl tr) := .node i tl tr h0 hon (by rw [k3]; exact hl.sub) (by rw [k4]; exact hr.sub)
  have hz := hs.size ha
  have hm := (ha.size i hon).2
  have h1 := hl.size
  have h2 := hr.size
  have h3 : (Tr.node i tl tr).size = tl.size + tr.size + 1 := rfl
  unfold Ar.sz at hz
  rw [if_neg h0] at hz
  refine ⟨hs, ?_, ?_⟩
  · unfold Tr.bal
    rw [hl.bal, hr.bal, wb_bal (by omega) (by omega) (by rw [h1, h2]; exact hw)]
    rfl
  · rw [Tr.ents_node, hl.ents, hr.ents, k1, k2]
theorem run_gen : ∀ (f : Nat) (A : Ar) (s : List Nat), (Ar.run f A s).1.σ.gen = A.σ.gen
  | 0, A, s => rfl
  | f + 1, A, [] => rfl
  | f + 1, A, i :: t => by
    unfold Ar.run
    by_cases h0 : i = 0
    · rw [if_pos h0]; exact run_gen f A t
    · rw [if_neg h0]
      by_cases h1 : A.cnt i = 1
      · rw [if_pos h1]; exact (run_gen f (A.drop i) _).trans rfl
      · rw [if_neg h1]; exact (run_gen f (A.dec i) t).trans rfl
theorem sub_gone' {A : Ar} {r : Nat} {held : Nat → Nat} (hv : (A.gone r).Inv [] held) {i : Nat} {t : Tr} (h : Sub A i t) : (i = 0 ∨ (A.gone r).σ.on i = true) → Sub (A.gone r) i t := by
  induction h with
  | nil => exact fun _ => .nil
  | node i l r' h0 h1 hl hr ihl ihr =>
    intro hi
    have hon := hi.resolve_left h0
    have hnd : (A.gone r).nd i = A.nd i := (run_on A.fuel A [r] i hon).2
    have hc := hv.child i hon
    rw [hnd] at hc
    exact .node i l r' h0 hon (by rw [hnd]; exact ihl hc.1) (by rw [hnd]; exact ihr hc.2)
theorem ents_gone' {A : Ar} {r : Nat} {i : Nat} {t : Tr} (h : Sub (A.gone r) i t) : t.ents (A.gone r).nd = t.ents A.nd := by
  unfold Tr.ents
  exact List.map_congr_left fun j hj => by
    have e : (A.gone r).nd j = A.nd j := (run_on A.fuel A [r] j (h.on j hj)).2
    rw [e]
theorem At.gone {B : Ar} {r i : Nat} {t : Tr} {l : List En} {held : Nat → Nat} (h : At B i t l) (hv : (B.gone r).Inv [] held) (hi : (B.gone r).Idx i) : At (B.gone r) i t l := by
  have hs := sub_gone' hv h.sub hi
  exact ⟨hs, h.bal, (ents_gone' hs).trans h.ents⟩
/-- what the caller holds stays where a reference of the call's is given back -/
theorem Mid.give {A B : Ar} {held : Nat → Nat} {x : Nat} {X : List Nat} (h : Mid A held B (x :: X)) :
    B.Inv [x] (plL held X) ∧ B.Idx x ∧ Mid A held (B.gone x) X ∧ B.σ.free.length ≤ (B.gone x).σ.free.length ∧ (∀ i, i ∈ X → B.Idx i → (B.gone x).Idx i) ∧ ∀ i, (B.gone x).σ.on i = true → B.σ.on i = true ∧ (B.gone x).nd i = B.nd i := by
  have hx : B.Idx x := by
    by_cases h0 : x = 0
    · exact .inl h0
    · exact .inr (h.inv.held x (plL_pos (List.mem_cons_self ..) h0))
  have hv : B.Inv [x] (plL held X) := by
    by_cases h0 : x = 0
    · subst h0
      have e : plL held (0 :: X) = plL held X := by rw [plL_cons]; rfl
      exact (e ▸ h.inv).give0
    · rw [← less_plL h0]
      exact h.inv.give (plL_pos (List.mem_cons_self ..) h0)
  obtain ⟨g1, g2, g3, g4⟩ := Ar.gone_ok hv h.agg
  have hon : ∀ i, (B.gone x).σ.on i = true → B.σ.on i = true ∧ (B.gone x).nd i = B.nd i := fun i hi => run_on B.fuel B [x] i hi
  have hr : ∀ i, A.Reach held i → (B.gone x).Idx i := fun i hi => by
    induction hi with
    | root i hi => exact .inr (g1.held i (by show 0 < held i + _; omega))
    | left k hk _ ih =>
      have hne : k ≠ 0 := fun e => by have := h.base.ok.on k hk; omega
      have h2 := ih.resolve_left hne
      have h3 := (g1.child k h2).1
      rw [(hon k h2).2, h.kept.nd k hk] at h3
      exact h3
    | right k hk _ ih =>
      have hne : k ≠ 0 := fun e => by have := h.base.ok.on k hk; omega
      have h2 := ih.resolve_left hne
      have h3 := (g1.child k h2).2
      rw [(hon k h2).2, h.kept.nd k hk] at h3
      exact h3
  have hA : ∀ i, A.σ.on i = true → (B.gone x).σ.on i = true := fun i hi => by
    have h1 := Ar.reach_all h.base h.bagg ((2147483647 - (A.nd i).size).toNat + 1) i hi (by have := (h.bagg.size i hi).2; omega)
    exact (hr i h1).resolve_left fun e => by have := h.base.ok.on i hi; omega
  refine ⟨hv, hx, ⟨h.base, h.bagg, ⟨g3.trans h.kept.cap, hA, fun i hi => (hon i (hA i hi)).2.trans (h.kept.nd i hi)⟩, fun i hi => ?_, g1, g2⟩, by omega, fun i hi hi2 => ?_, hon⟩
  · have e : (B.gone x).σ.gen = B.σ.gen := run_gen B.fuel B [x]
    rw [e]
    exact h.gen i hi
  · by_cases h0 : i = 0
    · exact .inl h0
    · exact .inr (g1.held i (plL_pos hi h0))
theorem Mid.made {A B : Ar} {held : Nat → Nat} {X : List Nat} (h : Mid A held B X) {i : Nat} {t : List Nat} (hf : B.σ.free = i :: t) {key val : Int} {l r : Nat} (hl : B.Idx l) (hr : B.Idx r) (hs : (B.node key val l r).size ≤ 2147483647) :
    Mid A held (B.made i t (B.node key val l r)) (i :: X) ∧ B.Kept (B.made i t (B.node key val l r)) ∧ (B.made i t (B.node key val l r)).σ.free = t ∧ i ≠ 0 ∧ (B.made i t (B.node key val l r)).σ.on i = true ∧ (B.made i t (B.node key val l r)).nd i = B.node key val l r := by
  have hi := (h.inv.ok.free i).1 (by rw [hf]; simp)
  have hne : ∀ j, B.σ.on j = true → j ≠ i := fun j hj e => by subst e; rw [hi.2.2] at hj; cases hj
  have h0 : i ≠ 0 := by omega
  have hk := Ar.Kept.made (B.node key val l r) h.inv hf
  refine ⟨⟨h.base, h.bagg, h.kept.trans hk, fun j hj => ?_, ?_, h.agg.made h.inv hf hl hr hs⟩, hk, rfl, h0, take_same _ _ _, if_pos rfl⟩
  · show (B.σ.take i t).gen j = A.σ.gen j
    unfold St.take
    simp [hne j (h.kept.on j hj), h.gen j hj]
  · rw [plL_cons]
    unfold pls
    rw [if_neg h0]
    exact h.inv.made hf hl hr
theorem Mid.ret {A B : Ar} {held : Nat → Nat} {X : List Nat} (h : Mid A held B X) {i : Nat} (hi : B.Idx i) : Mid A held (B.ret i) (i :: X) ∧ B.Kept (B.ret i) ∧ (B.ret i).σ = B.σ ∧ (B.ret i).nd = B.nd := by
  by_cases h0 : i = 0
  · subst h0
    have e : B.ret 0 = B := if_pos rfl
    have e2 : plL held (0 :: X) = plL held X := by rw [plL_cons]; rfl
    rw [e]
    exact ⟨⟨h.base, h.bagg, h.kept, h.gen, e2.symm ▸ h.inv, h.agg⟩, .refl B, rfl, rfl⟩
  · have hon := hi.resolve_left h0
    have e : B.ret i = B.inc i := if_neg h0
    rw [e]
    refine ⟨⟨h.base, h.bagg, h.kept.trans ⟨rfl, fun _ q => q, fun _ _ => rfl⟩, h.gen, ?_, h.agg.inc i⟩, ⟨rfl, fun _ q => q, fun _ _ => rfl⟩, rfl, rfl⟩
    rw [plL_cons]
    unfold pls
    rw [if_neg h0]
    exact h.inv.inc hon
theorem Mid.rot {A B C : Ar} {held : Nat → Nat} {X : List Nat} {j n : Nat} (h : Mid A held B X) (ht : Turned B (plL held X) C j n) : Mid A held C (j :: X) ∧ B.Kept C ∧ C.σ.free.length + n = B.σ.free.length ∧ j ≠ 0 := by
  have h0 : j ≠ 0 := fun e => by
    have h1 := ht.inv.held j (by unfold more; rw [if_pos rfl]; omega)
    have := ht.inv.ok.on j h1
    omega
  refine ⟨⟨h.base, h.bagg, h.kept.trans ht.kept, fun i hi => (ht.gen i (h.kept.on i hi)).trans (h.gen i hi), ?_, ht.agg⟩, ht.kept, ht.free, h0⟩
  rw [plL_cons]
  unfold pls
  rw [if_neg h0]
  exact ht.inv
/-- the call ends with one tree -/
theorem Mid.got {A B : Ar} {held : Nat → Nat} {j : Nat} {t : Tr} {l : List En} (h : Mid A held B [j]) (ha : At B j t l) : Got A held B j t l :=
  ⟨h.kept, h.gen, by have := h.inv; rw [plL_cons, plL_nil] at this; exact this, h.agg, ha.sub, ha.ents, ha.bal⟩
theorem Mid.got2 {A B : Ar} {held : Nat → Nat} {j k : Nat} {t u : Tr} {l m : List En} (h : Mid A held B [k, j]) (ha : At B j t l) (hb : At B k u m) : Got2 A held B j t l k u m :=
  ⟨h.kept, h.gen, by have := h.inv; rw [plL_cons, plL_cons, plL_nil] at this; exact this, h.agg, ha.sub, ha.ents, ha.bal, hb.sub, hb.ents, hb.bal⟩
/-- a call of such a function in the midst of another -/
theorem Mid.nest {A B C : Ar} {held : Nat → Nat} {X Y : List Nat} (h : Mid A held B X) (h2 : Mid B (plL held X) C Y) : Mid A held C (Y ++ X) := by
  refine ⟨h.base, h.bagg, h.kept.trans h2.kept, fun i hi => (h2.gen i (h.kept.on i hi)).trans (h.gen i hi), ?_, h2.agg⟩
  have e : plL held (Y ++ X) = plL (plL held X) Y := by
    funext j
    show held j + hof (Y ++ X) j = held j + hof X j + hof Y j
    unfold hof
    split
    · rfl
    · rw [List.count_append]; omega
  rw [e]
  exact h2.inv
theorem NewIn.nz {B C : Ar} {hd : Nat → Nat} (hv : C.Inv [] hd) {j : Nat} (h : NewIn B C j) : j ≠ 0 := by
  have := hv.ok.on j h.1
  omega
/-- the single rotation leaves both nodes balanced -/
def sgl (l inner outer : Int) : Bool := Proofs.YtckkmmdibgoajaaGreat.bal l inner && Proofs.YtckkmmdibgoajaaGreat.bal (l + 1 + inner) outer
theorem sgl_wb {l a b : Nat} (h : sgl (l : Int) (a : Int) (b : Int) = true) : wb (l + 1) (a + 1) ∧ wb (l + 1 + (a + 1)) (b + 1) := by
  unfold sgl at h
  rw [Bool.and_eq_true] at h
  have h1 := bal_wb h.1
  have h2 := bal_wb (a := l + 1 + a) (b := b) (by have := h.2; rw [Int.natCast_add, Int.natCast_add]; exact this)
  exact ⟨h1, by rw [← Nat.add_assoc]; exact h2⟩
theorem wb_sgl {l a b : Nat} (hs : l + a + b + 2 ≤ 2147483647) (h1 : wb (l + 1) (a + 1)) (h2 : wb (l + 1 + (a + 1)) (b + 1)) : sgl (l : Int) (a : Int) (b : Int) = true := by
  unfold sgl
  rw [Bool.and_eq_true]
  have h3 := wb_bal (a := l + 1 + a) (b := b) (by omega) (by omega) (by rw [Nat.add_assoc]; exact h2)
  rw [Int.natCast_add, Int.natCast_add] at h3
  exact ⟨wb_bal (by omega) (by omega) h1, h3⟩
/-- the right side is too heavy: which rotation, and what it makes -/
theorem heavy_right {B : Ar} {hd : Nat → Nat} (hI : B.Inv [] hd) (ha : B.Agg) {i L R : Nat} {e : En} {tl tr : Tr} {ll lr : List En} (hon : B.σ.on i = true) (hn : (B.nd i).key = e.key ∧ (B.nd i).val = e.val ∧ (B.nd i).left = L ∧ (B.nd i).right = R)
    (hL : At B L tl ll) (hR : At B R tr lr) (hw : 3 * (ll.length + 1) < lr.length + 1) (hh : hv (ll.length + 1) (lr.length + 1)) (hsz : ll.length + lr.length + 1 ≤ 2147483647) :
    B.σ.on R = true ∧ 0 ≤ B.sz (B.nd R).left ∧ 0 ≤ B.sz (B.nd R).right ∧
    (sgl (ll.length : Int) (B.sz (B.nd R).left) (B.sz (B.nd R).right) = true → rform B 0 i = true ∧ ∀ C hd' j, B.Kept C → C.Inv [] hd' → C.Agg → RNodes B C 0 i j → ∃ t, At C j t (ll ++ e :: lr)) ∧
    (sgl (ll.length : Int) (B.sz (B.nd R).left) (B.sz (B.nd R).right) = false → rform B 2 i = true ∧ ∀ C hd' j, B.Kept C → C.Inv [] hd' → C.Agg → RNodes B C 2 i j → ∃ t, At C j t (ll ++ e :: lr)) := by
  obtain ⟨n1, n2, n3, n4⟩ := hn
  have hR0 : R ≠ 0 := fun h0 => by
    have := (hR.zero_iff (held := hd)).1 h0
    subst this
    simp at hw
  have hRon := hR.idx.resolve_left hR0
  obtain ⟨ta, tb, la, lb, rfl, rfl, hA, hB, hab⟩ := hR.split hR0
  have za := hA.sz ha
  have zb := hB.sz ha
  have hln : (la ++ (⟨(B.nd R).key, (B.nd R).val⟩ : En) :: lb).length + 1 = (la.length + 1) + (lb.length + 1) := by simp; omega
  rw [hln] at hw hh
  have hss : sgl (ll.length : Int) (B.sz (B.nd R).left) (B.sz (B.nd R).right) = true → wb (ll.length + 1) (la.length + 1) ∧ wb (ll.length + 1 + (la.length + 1)) (lb.length + 1) := fun q => by
    rw [za, zb] at q
    exact sgl_wb q
  have hdd : sgl (ll.length : Int) (B.sz (B.nd R).left) (B.sz (B.nd R).right) = false → 2 * (B.sz (B.nd R).right + 1) ≤ B.sz (B.nd R).left + 1 := fun q => by
    rcases Nat.lt_or_ge (la.length + 1) (2 * (lb.length + 1)) with hc | hc
    · obtain ⟨w1, w2⟩ := wb_single (l := ll.length + 1) (r := (la.length + 1) + (lb.length + 1)) (a := la.length + 1) (b := lb.length + 1) (by omega) (by omega) (by omega) rfl hab hw hh hc
      rw [za, zb, wb_sgl (by omega) w1 w2] at q
      cases q
    · omega
  refine ⟨hRon, by omega, by omega, fun hs => ?_, fun hs => ?_⟩
  · refine ⟨by unfold rform; rw [hon]; simp [n4, hR0], fun C hd' j hk hv' ha' hr => ?_⟩
    obtain ⟨z, j1, z1, m1, m2⟩ := hr
    rw [n4] at m1 m2
    obtain ⟨w1, w2⟩ := hss hs
    obtain ⟨a1, a2, a3, a4⟩ := m1
    obtain ⟨b1, b2, b3, b4⟩ := m2
    have hz := At.join ha' (z1.nz hv') z1.1 (e := e) (l := L) (r := (B.nd R).left) ⟨b1.trans n1, b2.trans n2, b3.trans n3, b4⟩ (hL.kept hk) (hA.kept hk) w1
    have hj := At.join ha' (j1.nz hv') j1.1 (e := ⟨(B.nd R).key, (B.nd R).val⟩) ⟨a1, a2, a3, a4⟩ hz (hB.kept hk) (by unfold wbL; rw [show (ll ++ e :: la).length + 1 = ll.length + 1 + (la.length + 1) by simp; omega]; exact w2)
    exact ⟨_, by rw [show ll ++ e :: (la ++ (⟨(B.nd R).key, (B.nd R).val⟩ : En) :: lb) = (ll ++ e :: la) ++ ⟨(B.nd R).key, (B.nd R).val⟩ :: lb by simp]; exact hj⟩
  · have hs := hdd hs
    have hA0 : (B.nd R).left ≠ 0 := fun h0 => by
      have := (hA.zero_iff (held := hd)).1 h0
      subst this
      simp at za
      omega
    have hAon := hA.idx.resolve_left hA0
    obtain ⟨tc, td, lc, ld, rfl, rfl, hC, hD, hcd⟩ := hA.split hA0
    have hln2 : (lc ++ (⟨(B.nd (B.nd R).left).key, (B.nd (B.nd R).left).val⟩ : En) :: ld).length + 1 = (lc.length + 1) + (ld.length + 1) := by simp; omega
    refine ⟨by unfold rform; rw [hon]; simp [n4, hR0, hA0], fun C hd' j hk hv' ha' hr => ?_⟩
    obtain ⟨y, z, hyz, j1, y1, z1, m1, m2, m3⟩ := hr
    rw [n4] at m1 m2 m3
    obtain ⟨w1, w2, w3⟩ := wb_double (l := ll.length + 1) (r := (lc.length + 1) + (ld.length + 1) + (lb.length + 1)) (a := (lc.length + 1) + (ld.length + 1)) (b := lb.length + 1) (c := lc.length + 1) (d := ld.length + 1) (by omega) (by omega) (by omega) (by omega) rfl (by rw [← hln2]; exact hab) (by rw [← hln2]; exact hw) (by rw [← hln2]; exact hh) (by rw [← hln2]; omega) hcd rfl
    obtain ⟨a1, a2, a3, a4⟩ := m1
    obtain ⟨b1, b2, b3, b4⟩ := m2
    obtain ⟨c1, c2, c3, c4⟩ := m3
    have hy := At.join ha' (y1.nz hv') y1.1 (e := e) (l := L) (r := (B.nd (B.nd R).left).left) ⟨b1.trans n1, b2.trans n2, b3.trans n3, b4⟩ (hL.kept hk) (hC.kept hk) w1
    have hz := At.join ha' (z1.nz hv') z1.1 (e := ⟨(B.nd R).key, (B.nd R).val⟩) ⟨c1, c2, c3, c4⟩ (hD.kept hk) (hB.kept hk) w2
    have hj := At.join ha' (j1.nz hv') j1.1 (e := ⟨(B.nd (B.nd R).left).key, (B.nd (B.nd R).left).val⟩) ⟨a1, a2, a3, a4⟩ hy hz (by unfold wbL; rw [show (ll ++ e :: lc).length + 1 = ll.length + 1 + (lc.length + 1) by simp; omega, show (ld ++ (⟨(B.nd R).key, (B.nd R).val⟩ : En) :: lb).length + 1 = ld.length + 1 + (lb.length + 1) by simp; omega]; exact w3)
    exact ⟨_, by rw [show ll ++ e :: ((lc ++ (⟨(B.nd (B.nd R).left).key, (B.nd (B.nd R).left).val⟩ : En) :: ld) ++ (⟨(B.nd R).key, (B.nd R).val⟩ : En) :: lb) = (ll ++ e :: lc) ++ ⟨(B.nd (B.nd R).left).key, (B.nd (B.nd R).left).val⟩ :: (ld ++ ⟨(B.nd R).key, (B.nd R).val⟩ :: lb) by simp]; exact hj⟩
/-- the left side is too heavy -/
theorem heavy_left {B : Ar} {hd : Nat → Nat} (hI : B.Inv [] hd) (ha : B.Agg) {i L R : Nat} {e : En} {tl tr : Tr} {ll lr : List En} (hon : B.σ.on i = true) (hn : (B.nd i).key = e.key ∧ (B.nd i).val = e.val ∧ (B.nd i).left = L ∧ (B.nd i).right = R)
    (hL : At B L tl ll) (hR : At B R tr lr) (hw : 3 * (lr.length + 1) < ll.length + 1) (hh : hv (lr.length + 1) (ll.length + 1)) (hsz : ll.length + lr.length + 1 ≤ 2147483647) :
    B.σ.on L = true ∧ 0 ≤ B.sz (B.nd L).left ∧ 0 ≤ B.sz (B.nd L).right ∧
    (sgl (lr.length : Int) (B.sz (B.nd L).right) (B.sz (B.nd L).left) = true → rform B 1 i = true ∧ ∀ C hd' j, B.Kept C → C.Inv [] hd' → C.Agg → RNodes B C 1 i j → ∃ t, At C j t (ll ++ e :: lr)) ∧
    (sgl (lr.length : Int) (B.sz (B.nd L).right) (B.sz (B.nd L).left) = false → rform B 3 i = true ∧ ∀ C hd' j, B.Kept C → C.Inv [] hd' → C.Agg → RNodes B C 3 i j → ∃ t, At C j t (ll ++ e :: lr)) := by
  obtain ⟨n1, n2, n3, n4⟩ := hn
  have hL0 : L ≠ 0 := fun h0 => by
    have := (hL.zero_iff (held := hd)).1 h0
    subst this
    simp at hw
  have hLon := hL.idx.resolve_left hL0
  obtain ⟨tb, ta, lb, la, rfl, rfl, hB, hA, hab⟩ := hL.split hL0
  have za := hA.sz ha
  have zb := hB.sz ha
  have hln : (lb ++ (⟨(B.nd L).key, (B.nd L).val⟩ : En) :: la).length + 1 = (la.length + 1) + (lb.length + 1) := by simp; omega
  rw [hln] at hw hh
  have hab' : wb (la.length + 1) (lb.length + 1) := wb.symm hab
  have hss : sgl (lr.length : Int) (B.sz (B.nd L).right) (B.sz (B.nd L).left) = true → wb (lr.length + 1) (la.length + 1) ∧ wb (lr.length + 1 + (la.length + 1)) (lb.length + 1) := fun q => by
    rw [za, zb] at q
    exact sgl_wb q
  have hdd : sgl (lr.length : Int) (B.sz (B.nd L).right) (B.sz (B.nd L).left) = false → 2 * (B.sz (B.nd L).left + 1) ≤ B.sz (B.nd L).right + 1 := fun q => by
    rcases Nat.lt_or_ge (la.length + 1) (2 * (lb.length + 1)) with hc | hc
    · obtain ⟨w1, w2⟩ := wb_single (l := lr.length + 1) (r := (la.length + 1) + (lb.length + 1)) (a := la.length + 1) (b := lb.length + 1) (by omega) (by omega) (by omega) rfl hab' hw hh hc
      rw [za, zb, wb_sgl (by omega) w1 w2] at q
      cases q
    · omega
  refine ⟨hLon, by omega, by omega, fun hs => ?_, fun hs => ?_⟩
  · refine ⟨by unfold rform; rw [hon]; simp [n3, hL0], fun C hd' j hk hv' ha' hr => ?_⟩
    obtain ⟨z, j1, z1, m1, m2⟩ := hr
    rw [n3] at m1 m2
    obtain ⟨w1, w2⟩ := hss hs
    obtain ⟨a1, a2, a3, a4⟩ := m1
    obtain ⟨b1, b2, b3, b4⟩ := m2
    have hz := At.join ha' (z1.nz hv') z1.1 (e := e) (l := (B.nd L).right) (r := R) ⟨b1.trans n1, b2.trans n2, b3, b4.trans n4⟩ (hA.kept hk) (hR.kept hk) (wb.symm w1)
    have hj := At.join ha' (j1.nz hv') j1.1 (e := ⟨(B.nd L).key, (B.nd L).val⟩) ⟨a1, a2, a3, a4⟩ (hB.kept hk) hz (by unfold wbL; rw [show (la ++ e :: lr).length + 1 = lr.length + 1 + (la.length + 1) by simp; omega]; exact wb.symm w2)
    exact ⟨_, by rw [show (lb ++ (⟨(B.nd L).key, (B.nd L).val⟩ : En) :: la) ++ e :: lr = lb ++ ⟨(B.nd L).key, (B.nd L).val⟩ :: (la ++ e :: lr) by simp]; exact hj⟩
  · have hs := hdd hs
    have hA0 : (B.nd L).right ≠ 0 := fun h0 => by
      have := (hA.zero_iff (held := hd)).1 h0
      subst this
      simp at za
      omega
    have hAon := hA.idx.resolve_left hA0
    obtain ⟨td, tc, ld, lc, rfl, rfl, hD, hC, hcd⟩ := hA.split hA0
    have hln2 : (ld ++ (⟨(B.nd (B.nd L).right).key, (B.nd (B.nd L).right).val⟩ : En) :: lc).length + 1 = (lc.length + 1) + (ld.length + 1) := by simp; omega
    refine ⟨by unfold rform; rw [hon]; simp [n3, hL0, hA0], fun C hd' j hk hv' ha' hr => ?_⟩
    obtain ⟨y, z, hyz, j1, y1, z1, m1, m2, m3⟩ := hr
    rw [n3] at m1 m2 m3
    obtain ⟨w1, w2, w3⟩ := wb_double (l := lr.length + 1) (r := (lc.length + 1) + (ld.length + 1) + (lb.length + 1)) (a := (lc.length + 1) + (ld.length + 1)) (b := lb.length + 1) (c := lc.length + 1) (d := ld.length + 1) (by omega) (by omega) (by omega) (by omega) rfl (by rw [← hln2]; exact hab') (by rw [← hln2]; exact hw) (by rw [← hln2]; exact hh) (by rw [← hln2]; omega) (wb.symm hcd) rfl
    obtain ⟨a1, a2, a3, a4⟩ := m1
    obtain ⟨b1, b2, b3, b4⟩ := m2
    obtain ⟨c1, c2, c3, c4⟩ := m3
    have hy := At.join ha' (y1.nz hv') y1.1 (e := ⟨(B.nd L).key, (B.nd L).val⟩) ⟨b1, b2, b3, b4⟩ (hB.kept hk) (hD.kept hk) (wb.symm w2)
    have hz := At.join ha' (z1.nz hv') z1.1 (e := e) (l := (B.nd (B.nd L).right).right) (r := R) ⟨c1.trans n1, c2.trans n2, c3, c4.trans n4⟩ (hC.kept hk) (hR.kept hk) (wb.symm w1)
    have hj := At.join ha' (j1.nz hv') j1.1 (e := ⟨(B.nd (B.nd L).right).key, (B.nd (B.nd L).right).val⟩) ⟨a1, a2, a3, a4⟩ hy hz (by unfold wbL; rw [show (lc ++ e :: lr).length + 1 = lr.length + 1 + (lc.length + 1) by simp; omega, show (lb ++ (⟨(B.nd L).key, (B.nd L).val⟩ : En) :: ld).length + 1 = ld.length + 1 + (lb.length + 1) by simp; omega]; exact wb.symm w3)
    exact ⟨_, by rw [show (lb ++ (⟨(B.nd L).key, (B.nd L).val⟩ : En) :: (ld ++ (⟨(B.nd (B.nd L).right).key, (B.nd (B.nd L).right).val⟩ : En) :: lc)) ++ e :: lr = (lb ++ ⟨(B.nd L).key, (B.nd L).val⟩ :: ld) ++ ⟨(B.nd (B.nd L).right).key, (B.nd (B.nd L).right).val⟩ :: (lc ++ e :: lr) by simp]; exact hj⟩
end Go.Proofs.YtckkmmdibgoajaaGreat
set_option linter.unusedVariables false
namespace Go.Proofs.YtckkmmdibgoajaaGreat
theorem xh_up {m n : Nat} (h : m ≤ n) (hn : n ≤ 2147483647) : xh m ≤ xh n := xh_le hn (by have := (xh_spec (n := m) (by omega)).1; omega)
/-- a third more keys: a level more -/
theorem xh_grow {c b : Nat} (h : 4 * (c + 1) ≤ 3 * (b + 1)) (hb : b ≤ 2147483647) : xh c + 1 ≤ xh b := by
  have h1 := (xh_spec (n := c) (by omega)).1
  have h2 := wt_pos (xh c)
  refine xh_le hb ?_
  rw [wt_succ]
  omega
/-- how many levels a join goes down on the left of a tree, the other one having n keys -/
def jdl (n : Nat) : Tr → Nat
  | .nil => 0
  | .node _ l r => if 3 * (n + 1) < l.size + r.size + 2 then 1 + jdl n l else 0
/-- on the right -/
def jdr (n : Nat) : Tr → Nat
  | .nil => 0
  | .node _ l r => if 3 * (n + 1) < l.size + r.size + 2 then 1 + jdr n r else 0
theorem jdl_le {n : Nat} : ∀ {t : Tr}, t.bal = true → t.size ≤ 2147483647 → jdl n t = 0 ∨ (3 * (n + 1) < t.size + 1 ∧ jdl n t + xh n ≤ xh t.size)
  | .nil, _, _ => .inl rfl
  | .node i l r, hb, hs => by
    unfold Tr.bal at hb
    simp only [Bool.and_eq_true] at hb
    have hw := bal_wb hb.1.1
    have hz : (Tr.node i l r).size = l.size + r.size + 1 := rfl
    rw [hz] at hs ⊢
    unfold jdl
    by_cases hc : 3 * (n + 1) < l.size + r.size + 2
    · rw [if_pos hc]
      right
      have h1 := xh_grow (c := l.size) (b := l.size + r.size + 1) (by have := hw.1; omega) hs
      have h2 := xh_grow (c := n) (b := l.size + r.size + 1) (by omega) hs
      refine ⟨by omega, ?_⟩
      rcases jdl_le (n := n) (t := l) hb.1.2 (by omega) with h | ⟨_, h⟩
      · rw [h]; omega
      · omega
    · rw [if_neg hc]; exact .inl rfl
theorem jdr_le {n : Nat} : ∀ {t : Tr}, t.bal = true → t.size ≤ 2147483647 → jdr n t = 0 ∨ (3 * (n + 1) < t.size + 1 ∧ jdr n t + xh n ≤ xh t.size)
  | .nil, _, _ => .inl rfl
  | .node i l r, hb, hs => by
    unfold Tr.bal at hb
    simp only [Bool.and_eq_true] at hb
    have hw := bal_wb hb.1.1
    have hz : (Tr.node i l r).size = l.size + r.size + 1 := rfl
    rw [hz] at hs ⊢
    unfold jdr
    by_cases hc : 3 * (n + 1) < l.size + r.size + 2
    · rw [if_pos hc]
      right
      have h1 := xh_grow (c := r.size) (b := l.size + r.size + 1) (by have := hw.2; omega) hs
      have h2 := xh_grow (c := n) (b := l.size + r.size + 1) (by omega) hs
      refine ⟨by omega, ?_⟩
      rcases jdr_le (n := n) (t := r) hb.2 (by omega) with h | ⟨_, h⟩
      · rw [h]; omega
      · omega
    · rw [if_neg hc]; exact .inl rfl
/-- the levels of a join of two trees -/
def jd (t u : Tr) : Nat := if 3 * (t.size + 1) < u.size + 1 then jdl t.size u else jdr u.size t
/-- a join goes down at most as far as the heights differ -/
theorem jd_le {t u : Tr} (ht : t.bal = true) (hu : u.bal = true) (hs : t.size + u.size ≤ 2147483647) :
    (wb (t.size + 1) (u.size + 1) ∧ jd t u = 0) ∨ (3 * (t.size + 1) < u.size + 1 ∧ jd t u + xh t.size ≤ xh u.size) ∨ (3 * (u.size + 1) < t.size + 1 ∧ jd t u + xh u.size ≤ xh t.size) := by
  unfold jd
  by_cases h1 : 3 * (t.size + 1) < u.size + 1
  · rw [if_pos h1]
    refine .inr (.inl ⟨h1, ?_⟩)
    rcases jdl_le (n := t.size) hu (by omega) with h | ⟨_, h⟩
    · rw [h]; have := xh_up (m := t.size) (n := u.size) (by omega) (by omega); omega
    · exact h
  · rw [if_neg h1]
    by_cases h2 : 3 * (u.size + 1) < t.size + 1
    · refine .inr (.inr ⟨h2, ?_⟩)
      rcases jdr_le (n := u.size) ht (by omega) with h | ⟨_, h⟩
      · rw [h]; have := xh_up (m := u.size) (n := t.size) (by omega) (by omega); omega
      · exact h
    · refine .inl ⟨⟨by omega, by omega⟩, ?_⟩
      rcases jdr_le (n := u.size) ht (by omega) with h | ⟨h, _⟩
      · exact h
      · omega
theorem jd_xh {t u : Tr} (ht : t.bal = true) (hu : u.bal = true) (hs : t.size + u.size + 1 ≤ 2147483647) : jd t u ≤ xh (t.size + u.size + 1) := by
  have h1 := xh_up (m := t.size) (n := t.size + u.size + 1) (by omega) hs
  have h2 := xh_up (m := u.size) (n := t.size + u.size + 1) (by omega) hs
  rcases jd_le ht hu (by omega) with ⟨_, h⟩ | ⟨_, h⟩ | ⟨_, h⟩ <;> omega
/-- one step of a split, the key on the left: the greater keys of the left child, t, are joined to the right child, u -/
theorem split_step_l {t u : Tr} {s lo h : Nat} (ht : t.bal = true) (hu : u.bal = true) (hs : t.size + u.size + 1 ≤ 2147483647) (hw : t.size + 1 ≤ 3 * (u.size + 1)) (h1 : s ≤ xh lo + xh t.size + h) :
    s + (jd t u + 1) ≤ xh lo + xh (t.size + u.size + 1) + (h + 1) := by
  have g1 := xh_up (m := t.size) (n := t.size + u.size + 1) (by omega) hs
  have g2 := xh_up (m := u.size) (n := t.size + u.size + 1) (by omega) hs
  rcases jd_le ht hu (by omega) with ⟨_, h⟩ | ⟨_, h⟩ | ⟨hc, h⟩ <;> omega
theorem split_step_r {t u : Tr} {s hi h : Nat} (ht : t.bal = true) (hu : u.bal = true) (hs : t.size + u.size + 1 ≤ 2147483647) (hw : u.size + 1 ≤ 3 * (t.size + 1)) (h1 : s ≤ xh u.size + xh hi + h) :
    s + (jd t u + 1) ≤ xh (t.size + u.size + 1) + xh hi + (h + 1) := by
  have g1 := xh_up (m := t.size) (n := t.size + u.size + 1) (by omega) hs
  have g2 := xh_up (m := u.size) (n := t.size + u.size + 1) (by omega) hs
  rcases jd_le ht hu (by omega) with ⟨_, h⟩ | ⟨hc, h⟩ | ⟨_, h⟩ <;> omega
end Go.Proofs.YtckkmmdibgoajaaGreat
set_option linter.unusedVariables false
namespace Go.Proofs.YtckkmmdibgoajaaGreat
theorem sum_zero' {l : List Nat} {f : Nat → Nat} (h : ∀ k ∈ l, f k = 0) : (l.map f).sum = 0 := by
  induction l with
  | nil => rfl
  | cons a t ih =>
    rw [List.map_cons, List.sum_cons, h a (by simp), ih fun k hk => h k (by simp [hk])]
theorem nd_len : ∀ {l m : List Nat}, l.Nodup → (∀ x ∈ l, x ∈ m) → l.length ≤ m.length
  | [], m, _, _ => Nat.zero_le _
  | a :: l, m, hn, hs => by
    rw [List.nodup_cons] at hn
    have h1 := nd_len (l := l) (m := m.erase a) hn.2 fun x hx => (List.mem_erase_of_ne fun e => hn.1 (by rw [← e]; exact hx)).2 (hs x (by simp [hx]))
    have ha := hs a (by simp)
    rw [List.length_erase_of_mem ha] at h1
    have h2 : 0 < m.length := List.length_pos_of_mem ha
    simp only [List.length_cons]
    omega
/-- nothing refers to i -/
def Alone (A : Ar) (i : Nat) : Prop := ∀ x, A.σ.on x = true → (A.nd x).left ≠ i ∧ (A.nd x).right ≠ i
theorem Alone.refs {A : Ar} {i : Nat} (h : Alone A i) : A.refs i = 0 := by
  unfold Ar.refs
  refine sum_zero' fun k _ => ?_
  unfold Ar.edge
  by_cases hk : A.σ.on k = true
  · rw [if_pos hk]
    unfold hit
    rw [if_neg (h k hk).1, if_neg (h k hk).2]
  · rw [if_neg hk]
theorem Alone.frees {A : Ar} {r : Nat} {held : Nat → Nat} (h : Alone A r) (hv : A.Inv [r] held) (ha : A.Agg) (h0 : r ≠ 0) (hon : A.σ.on r = true) (hh : held r = 0) : A.σ.free.length + 1 ≤ (A.gone r).σ.free.length := by
  obtain ⟨_, _, _, g4⟩ := Ar.gone_ok hv ha
  have hc : A.cnt r = 1 := by
    rw [hv.cnt r hon, h.refs, hh]
    simp
  have : 1 ≤ A.freed r := by
    show 1 ≤ (Ar.run (3 * A.σ.cap + 1) A [r]).2
    rw [Ar.run, if_neg h0, if_pos hc]
    exact Nat.succ_le_succ (Nat.zero_le _)
  omega
/-- a new node is alone -/
theorem alone_made {B : Ar} {hd : Nat → Nat} (hv : B.Inv [] hd) {i : Nat} {t : List Nat} (hf : B.σ.free = i :: t) {key val : Int} {l r : Nat} (hl : B.Idx l) (hr : B.Idx r) : Alone (B.made i t (B.node key val l r)) i := by
  have hi := (hv.ok.free i).1 (by rw [hf]; simp)
  have h0 : i ≠ 0 := by omega
  have hx : ∀ x, B.Idx x → x ≠ i := fun x q e => by
    subst e
    rcases q with q | q
    · exact h0 q
    · rw [hi.2.2] at q; cases q
  intro x hon
  by_cases e : x = i
  · subst e
    have e2 : (B.made x t (B.node key val l r)).nd x = B.node key val l r := if_pos rfl
    rw [e2]
    exact ⟨hx l hl, hx r hr⟩
  · have e2 : (B.made i t (B.node key val l r)).nd x = B.nd x := if_neg e
    have e3 : B.σ.on x = true := by
      have h1 : (B.σ.take i t).on x = true := hon
      unfold St.take at h1
      simpa [e] using h1
    rw [e2]
    exact ⟨hx _ (hv.child x e3).1, hx _ (hv.child x e3).2⟩
/-- the nodes that a rotation makes, and what they refer to -/
theorem RNodes.news {A B : Ar} {hd : Nat → Nat} {k i j : Nat} (hi : A.σ.on i = true) (hf : rform A k i = true) (hk : k < 4) (ha : B.Agg) (hv : A.Inv [] hd) (hv2 : B.Inv [] (more hd j)) (hr : RNodes A B k i j) :
    ∃ N : List Nat, N.Nodup ∧ N.length = rneed k ∧ ∀ x ∈ N, NewIn A B x ∧ ∀ y, (y = (B.nd x).left ∨ y = (B.nd x).right) → y ∈ N ∨ ∃ z, A.σ.on z = true ∧ (y = (A.nd z).left ∨ y = (A.nd z).right) := by
  have hne : ∀ {x y : Nat}, B.σ.on x = true → B.σ.on y = true → (y = (B.nd x).left ∨ y = (B.nd x).right) → x ≠ y := fun {x y} hx hy h e => by
    subst e
    have h1 := sz_child ha hx
    have hn := ha.size x hx
    have h0 : x ≠ 0 := by have := hv2.ok.on x hx; omega
    have hz : B.sz x = (B.nd x).size := by unfold Ar.sz; rw [if_neg h0]
    have c := hv2.child x hx
    have z1 := sz_nonneg ha c.1
    have z2 := sz_nonneg ha c.2
    rcases h with h | h
    · rw [← h, hz] at h1; omega
    · rw [← h, hz] at h1; omega
  unfold rform at hf
  rw [hi] at hf
  obtain rfl | rfl | rfl | rfl : k = 0 ∨ k = 1 ∨ k = 2 ∨ k = 3 := by omega
  · simp only [Bool.true_and, bne_iff_ne] at hf
    have hR := (hv.child i hi).2.resolve_left hf
    obtain ⟨z, n1, n2, ⟨_, _, l1, r1⟩, ⟨_, _, l2, r2⟩⟩ := hr
    refine ⟨[j, z], by simpa using hne n1.1 n2.1 (.inl l1.symm), rfl, fun x hx => ?_⟩
    simp only [List.mem_cons, List.not_mem_nil, or_false] at hx
    rcases hx with rfl | rfl
    · refine ⟨n1, fun y hy => ?_⟩
      rcases hy with rfl | rfl
      · rw [l1]; exact .inl (by simp)
      · rw [r1]; exact .inr ⟨_, hR, .inr rfl⟩
    · refine ⟨n2, fun y hy => ?_⟩
      rcases hy with rfl | rfl
      · rw [l2]; exact .inr ⟨_, hi, .inl rfl⟩
      · rw [r2]; exact .inr ⟨_, hR, .inl rfl⟩
  · simp only [Bool.true_and, bne_iff_ne] at hf
    have hR := (hv.child i hi).1.resolve_left hf
    obtain ⟨z, n1, n2, ⟨_, _, l1, r1⟩, ⟨_, _, l2, r2⟩⟩ := hr
    refine ⟨[j, z], by simpa using hne n1.1 n2.1 (.inr r1.symm), rfl, fun x hx => ?_⟩
    simp only [List.mem_cons, List.not_mem_nil, or_false] at hx
    rcases hx with rfl | rfl
    · refine ⟨n1, fun y hy => ?_⟩
      rcases hy with rfl | rfl
      · rw [l1]; exact .inr ⟨_, hR, .inl rfl⟩
      · rw [r1]; exact .inl (by simp)
    · refine ⟨n2, fun y hy => ?_⟩
      rcases hy with rfl | rfl
      · rw [l2]; exact .inr ⟨_, hR, .inr rfl⟩
      · rw [r2]; exact .inr ⟨_, hi, .inr rfl⟩
  · simp only [Bool.true_and, Bool.and_eq_true, bne_iff_ne] at hf
    have hR := (hv.child i hi).2.resolve_left hf.1
    have hQ := (hv.child _ hR).1.resolve_left hf.2
    obtain ⟨a, b, hab, n0, n1, n2, ⟨_, _, l0, r0⟩, ⟨_, _, l1, r1⟩, ⟨_, _, l2, r2⟩⟩ := hr
    have h1 := hne n0.1 n1.1 (.inl l0.symm)
    have h2 := hne n0.1 n2.1 (.inr r0.symm)
    refine ⟨[j, a, b], by simp [h1, h2, hab], rfl, fun x hx => ?_⟩
    simp only [List.mem_cons, List.not_mem_nil, or_false] at hx
    rcases hx with rfl | rfl | rfl
    · refine ⟨n0, fun y hy => ?_⟩
      rcases hy with rfl | rfl
      · rw [l0]; exact .inl (by simp)
      · rw [r0]; exact .inl (by simp)
    · refine ⟨n1, fun y hy => ?_⟩
      rcases hy with rfl | rfl
      · rw [l1]; exact .inr ⟨_, hi, .inl rfl⟩
      · rw [r1]; exact .inr ⟨_, hQ, .inl rfl⟩
    · refine ⟨n2, fun y hy => ?_⟩
      rcases hy with rfl | rfl
      · rw [l2]; exact .inr ⟨_, hQ, .inr rfl⟩
      · rw [r2]; exact .inr ⟨_, hR, .inr rfl⟩
  · simp only [Bool.true_and, Bool.and_eq_true, bne_iff_ne] at hf
    have hR := (hv.child i hi).1.resolve_left hf.1
    have hQ := (hv.child _ hR).2.resolve_left hf.2
    obtain ⟨a, b, hab, n0, n1, n2, ⟨_, _, l0, r0⟩, ⟨_, _, l1, r1⟩, ⟨_, _, l2, r2⟩⟩ := hr
    have h1 := hne n0.1 n1.1 (.inl l0.symm)
    have h2 := hne n0.1 n2.1 (.inr r0.symm)
    refine ⟨[j, a, b], by simp [h1, h2, hab], rfl, fun x hx => ?_⟩
    simp only [List.mem_cons, List.not_mem_nil, or_false] at hx
    rcases hx with rfl | rfl | rfl
    · refine ⟨n0, fun y hy => ?_⟩
      rcases hy with rfl | rfl
      · rw [l0]; exact .inl (by simp)
      · rw [r0]; exact .inl (by simp)
    · refine ⟨n1, fun y hy => ?_⟩
      rcases hy with rfl | rfl
      · rw [l1]; exact .inr ⟨_, hR, .inl rfl⟩
      · rw [r1]; exact .inr ⟨_, hQ, .inl rfl⟩
    · refine ⟨n2, fun y hy => ?_⟩
      rcases hy with rfl | rfl
      · rw [l2]; exact .inr ⟨_, hQ, .inr rfl⟩
      · rw [r2]; exact .inr ⟨_, hi, .inr rfl⟩
/-- after a rotation nothing refers to the root that was rotated, if nothing did before -/
theorem rot_alone {A B : Ar} {hd : Nat → Nat} {k i j : Nat} (hp : Alone A i) (hv : A.Inv [] hd) (hi : A.σ.on i = true) (hf : rform A k i = true) (hk : k < 4) (ht : Turned A hd B j (rneed k)) (hr : RNodes A B k i j) : Alone B i := by
  obtain ⟨N, n1, n2, n3⟩ := hr.news hi hf hk ht.agg hv ht.inv
  intro x hx
  by_cases hA : A.σ.on x = true
  · rw [ht.kept.nd x hA]; exact hp x hA
  · have hoff : A.σ.on x = false := by simpa using hA
    have hmem : x ∈ N := by
      by_cases hm : x ∈ N
      · exact hm
      · exfalso
        have hin : ∀ y, B.σ.on y = true → A.σ.on y = false → y ∈ A.σ.free := fun y h1 h2 => by
          have := ht.inv.ok.on y h1
          exact (hv.ok.free y).2 (by rw [← ht.kept.cap]; exact ⟨this.1, this.2, h2⟩)
        have hsub : ∀ y ∈ x :: (N ++ B.σ.free), y ∈ A.σ.free := fun y hy => by
          rcases List.mem_cons.1 hy with rfl | hy
          · exact hin _ hx hoff
          · rcases List.mem_append.1 hy with hy | hy
            · exact hin _ (n3 y hy).1.1 (n3 y hy).1.2
            · have h1 := (ht.inv.ok.free y).1 hy
              refine (hv.ok.free y).2 ⟨h1.1, by rw [← ht.kept.cap]; exact h1.2.1, ?_⟩
              cases ho : A.σ.on y
              · rfl
              · have h3 := ht.kept.on y ho
                rw [h1.2.2] at h3
                cases h3
        have hnb : ∀ y, B.σ.on y = true → y ∉ B.σ.free := fun y h1 h2 => by
          have h3 := ((ht.inv.ok.free y).1 h2).2.2
          rw [h1] at h3
          cases h3
        have hnd : (x :: (N ++ B.σ.free)).Nodup := by
          rw [List.nodup_cons, List.nodup_append]
          refine ⟨fun h => ?_, n1, ht.inv.ok.nodup, fun a h1 b h2 e => ?_⟩
          · rcases List.mem_append.1 h with h | h
            · exact hm h
            · exact hnb x hx h
          · subst e
            exact hnb a (n3 a h1).1.1 h2
        have h1 := nd_len hnd hsub
        have h2 := ht.free
        simp only [List.length_cons, List.length_append] at h1
        omega
    have h1 := (n3 x hmem).2
    refine ⟨fun e => ?_, fun e => ?_⟩
    · rcases h1 _ (.inl rfl) with h2 | ⟨z, hz, h2⟩
      · have h3 := (n3 _ h2).1.2
        rw [e, hi] at h3
        cases h3
      · rw [e] at h2
        rcases h2 with h2 | h2
        · exact (hp z hz).1 h2.symm
        · exact (hp z hz).2 h2.symm
    · rcases h1 _ (.inr rfl) with h2 | ⟨z, hz, h2⟩
      · have h3 := (n3 _ h2).1.2
        rw [e, hi] at h3
        cases h3
      · rw [e] at h2
        rcases h2 with h2 | h2
        · exact (hp z hz).1 h2.symm
        · exact (hp z hz).2 h2.symm
/-- the nodes that are made where the first entry goes -/
def lossN : Tr → Nat
  | .nil => 0
  | .node _ l u => lossN l + if l.size = 0 then 0 else if 3 * l.size < u.size + 1 then 3 else 1
/-- four times the keys: three levels more -/
theorem xh_four {c b : Nat} (h : 4 * (c + 1) ≤ b + 3) (h0 : 1 ≤ c) (hb : b ≤ 2147483647) : xh c + 3 ≤ xh b := by
  have h1 := (xh_spec (n := c) (by omega)).1
  have hp : 1 ≤ xh c := xh_le (by omega) (by show 2 - 1 ≤ c; omega)
  have h2 : 2 ≤ wt (xh c) := by
    have := wt_mono (h := 1) (k := xh c) hp
    exact this
  refine xh_le hb ?_
  rw [wt_succ, wt_succ, wt_succ]
  omega
theorem lossN_le : ∀ {t : Tr}, t.bal = true → t.size ≤ 2147483647 → lossN t ≤ xh t.size
  | .nil, _, _ => Nat.zero_le _
  | .node k l u, hb, hs => by
    unfold Tr.bal at hb
    simp only [Bool.and_eq_true] at hb
    have hw := bal_wb hb.1.1
    have e2 : (Tr.node k l u).size = l.size + u.size + 1 := rfl
    rw [e2] at hs ⊢
    have h1 := lossN_le (t := l) hb.1.2 (by omega)
    show lossN l + (if l.size = 0 then 0 else if 3 * l.size < u.size + 1 then 3 else 1) ≤ _
    by_cases h0 : l.size = 0
    · rw [if_pos h0]
      have := xh_up (m := l.size) (n := l.size + u.size + 1) (by omega) hs
      omega
    rw [if_neg h0]
    by_cases hc : 3 * l.size < u.size + 1
    · rw [if_pos hc]
      have := xh_four (c := l.size) (b := l.size + u.size + 1) (by omega) (by omega) hs
      omega
    · rw [if_neg hc]
      have := xh_grow (c := l.size) (b := l.size + u.size + 1) (by have := hw.1; omega) hs
      omega
end Go.Proofs.YtckkmmdibgoajaaGreat
set_option linter.unusedVariables false
set_option linter.unusedSimpArgs false
namespace Go.Proofs.YtckkmmdibgoajaaGreat
open Go.RowKit
section
variable {w0 w w' : World} {D : List (Nat × Nd)} {a b c : Nat} {X Y Z Y1 Y2 Y3 : Nd}
/-- a world with eight cells written -/
def put8 (w : World) (a : Nat) (Y : Nd) : World := ((((((((w.setCell ⟨a, 0, none⟩ (.int .i64 Y.key)).setCell ⟨a, 1, none⟩ (.int .i64 Y.val)).setCell ⟨a, 2, none⟩ (.int .u32 (Y.left : Int))).setCell ⟨a, 3, none⟩ (.int .u32 (Y.right : Int))).setCell ⟨a, 4, none⟩ (.int .i64 Y.size)).setCell ⟨a, 5, none⟩ (.int .i64 Y.sum)).setCell ⟨a, 6, none⟩ (.int .i64 Y.mn)).setCell ⟨a, 7, none⟩ (.int .i64 Y.mx))
theorem put8_size (w : World) (g : Nat) (Y : Nd) : (put8 w g Y).heap.size = w.heap.size := by simp [put8, World.setCell]
theorem put8_other (w : World) (g : Nat) (Y : Nd) {k : Nat} (hk : k ≠ g) : (put8 w g Y).heap[k]? = w.heap[k]? := by
  unfold put8
  rw [heap_setCell_other _ _ _ _ hk, heap_setCell_other _ _ _ _ hk, heap_setCell_other _ _ _ _ hk, heap_setCell_other _ _ _ _ hk, heap_setCell_other _ _ _ _ hk, heap_setCell_other _ _ _ _ hk, heap_setCell_other _ _ _ _ hk, heap_setCell_other _ _ _ _ hk]
theorem put8_same {t : TypeId} (h : w.heap[a]? = some (.cells (ndRow X) t (0, 0))) : (put8 w a Y).heap[a]? = some (.cells (ndRow Y) t (0, 0)) := by
  have h0 : (w.setCell ⟨a, 0, none⟩ (.int .i64 Y.key)).heap[a]? = some (.cells #[Value.int .i64 Y.key, .int .i64 X.val, .int .u32 (X.left : Int), .int .u32 (X.right : Int), .int .i64 X.size, .int .i64 X.sum, .int .i64 X.mn, .int .i64 X.mx] t (0, 0)) := by rw [heap_setCell_same _ _ _ _ _ _ h]; rfl
  have h1 : ((w.setCell ⟨a, 0, none⟩ (.int .i64 Y.key)).setCell ⟨a, 1, none⟩ (.int .i64 Y.val)).heap[a]? = some (.cells #[Value.int .i64 Y.key, .int .i64 Y.val, .int .u32 (X.left : Int), .int .u32 (X.right : Int), .int .i64 X.size, .int .i64 X.sum, .int .i64 X.mn, .int .i64 X.mx] t (0, 0)) := by rw [heap_setCell_same _ _ _ _ _ _ h0]; rfl
  have h2 : (((w.setCell ⟨a, 0, none⟩ (.int .i64 Y.key)).setCell ⟨a, 1, none⟩ (.int .i64 Y.val)).setCell ⟨a, 2, none⟩ (.int .u32 (Y.left : Int))).heap[a]? = some (.cells #[Value.int .i64 Y.key, .int .i64 Y.val, .int .u32 (Y.left : Int), .int .u32 (X.right : Int), .int .i64 X.size, .int .i64 X.sum, .int .i64 X.mn, .int .i64 X.mx] t (0, 0)) := by rw [heap_setCell_same _ _ _ _ _ _ h1]; rfl
  have h3 : ((((w.setCell ⟨a, 0, none⟩ (.int .i64 Y.key)).setCell ⟨a, 1, none⟩ (.int .i64 Y.val)).setCell ⟨a, 2, none⟩ (.int .u32 (Y.left : Int))).setCell ⟨a, 3, none⟩ (.int .u32 (Y.right : Int))).heap[a]? = some (.cells #[Value.int .i64 Y.key, .int .i64 Y.val, .int .u32 (Y.left : Int), .int .u32 (Y.right : Int), .int .i64 X.size, .int .i64 X.sum, .int .i64 X.mn, .int .i64 X.mx] t (0, 0)) := by rw [heap_setCell_same _ _ _ _ _ _ h2]; rfl
  have h4 : (((((w.setCell ⟨a, 0, none⟩ (.int .i64 Y.key)).setCell ⟨a, 1, none⟩ (.int .i64 Y.val)).setCell ⟨a, 2, none⟩ (.int .u32 (Y.left : Int))).setCell ⟨a, 3, none⟩ (.int .u32 (Y.right : Int))).setCell ⟨a, 4, none⟩ (.int .i64 Y.size)).heap[a]? = some (.cells #[Value.int .i64 Y.key, .int .i64 Y.val, .int .u32 (Y.left : Int), .int .u32 (Y.right : Int), .int .i64 Y.size, .int .i64 X.sum, .int .i64 X.mn, .int .i64 X.mx] t (0, 0)) := by rw [heap_setCell_same _ _ _ _ _ _ h3]; rfl
  have h5 : ((((((w.setCell ⟨a, 0, none⟩ (.int .i64 Y.key)).setCell ⟨a, 1, none⟩ (.int .i64 Y.val)).setCell ⟨a, 2, none⟩ (.int .u32 (Y.left : Int))).setCell ⟨a, 3, none⟩ (.int .u32 (Y.right : Int))).setCell ⟨a, 4, none⟩ (.int .i64 Y.size)).setCell ⟨a, 5, none⟩ (.int .i64 Y.sum)).heap[a]? = some (.cells #[Value.int .i64 Y.key, .int .i64 Y.val, .int .u32 (Y.left : Int), .int .u32 (Y.right : Int), .int .i64 Y.size, .int .i64 Y.sum, .int .i64 X.mn, .int .i64 X.mx] t (0, 0)) := by rw [heap_setCell_same _ _ _ _ _ _ h4]; rfl
  have h6 : (((((((w.setCell ⟨a, 0, none⟩ (.int .i64 Y.key)).setCell ⟨a, 1, none⟩ (.int .i64 Y.val)).setCell ⟨a, 2, none⟩ (.int .u32 (Y.left : Int))).setCell ⟨a, 3, none⟩ (.int .u32 (Y.right : Int))).setCell ⟨a, 4, none⟩ (.int .i64 Y.size)).setCell ⟨a, 5, none⟩ (.int .i64 Y.sum)).setCell ⟨a, 6, none⟩ (.int .i64 Y.mn)).heap[a]? = some (.cells #[Value.int .i64 Y.key, .int .i64 Y.val, .int .u32 (Y.left : Int), .int .u32 (Y.right : Int), .int .i64 Y.size, .int .i64 Y.sum, .int .i64 Y.mn, .int .i64 X.mx] t (0, 0)) := by rw [heap_setCell_same _ _ _ _ _ _ h5]; rfl
  have h7 : ((((((((w.setCell ⟨a, 0, none⟩ (.int .i64 Y.key)).setCell ⟨a, 1, none⟩ (.int .i64 Y.val)).setCell ⟨a, 2, none⟩ (.int .u32 (Y.left : Int))).setCell ⟨a, 3, none⟩ (.int .u32 (Y.right : Int))).setCell ⟨a, 4, none⟩ (.int .i64 Y.size)).setCell ⟨a, 5, none⟩ (.int .i64 Y.sum)).setCell ⟨a, 6, none⟩ (.int .i64 Y.mn)).setCell ⟨a, 7, none⟩ (.int .i64 Y.mx)).heap[a]? = some (.cells #[Value.int .i64 Y.key, .int .i64 Y.val, .int .u32 (Y.left : Int), .int .u32 (Y.right : Int), .int .i64 Y.size, .int .i64 Y.sum, .int .i64 Y.mn, .int .i64 Y.mx] t (0, 0)) := by rw [heap_setCell_same _ _ _ _ _ _ h6]; rfl
  exact h7
theorem put8_below {n0 : Nat} (hw : n0 ≤ a) : Below n0 w (put8 w a Y) := (((((((((Below.refl _ _).setCell hw _).setCell hw _).setCell hw _).setCell hw _).setCell hw _).setCell hw _).setCell hw _).setCell hw _)
/-- eight cells and their marks -/
def Row8 (w : World) (a : Nat) (X : Nd) : Prop :=
  (w.cell? ⟨a, 0, none⟩ = some (.int .i64 X.key) ∧ w.cell? ⟨a, 1, none⟩ = some (.int .i64 X.val) ∧ w.cell? ⟨a, 2, none⟩ = some (.int .u32 (X.left : Int)) ∧ w.cell? ⟨a, 3, none⟩ = some (.int .u32 (X.right : Int)) ∧ w.cell? ⟨a, 4, none⟩ = some (.int .i64 X.size) ∧ w.cell? ⟨a, 5, none⟩ = some (.int .i64 X.sum) ∧ w.cell? ⟨a, 6, none⟩ = some (.int .i64 X.mn) ∧ w.cell? ⟨a, 7, none⟩ = some (.int .i64 X.mx)) ∧
  (w.frozen? ⟨a, 0, none⟩ = false ∧ w.frozen? ⟨a, 1, none⟩ = false ∧ w.frozen? ⟨a, 2, none⟩ = false ∧ w.frozen? ⟨a, 3, none⟩ = false ∧ w.frozen? ⟨a, 4, none⟩ = false ∧ w.frozen? ⟨a, 5, none⟩ = false ∧ w.frozen? ⟨a, 6, none⟩ = false ∧ w.frozen? ⟨a, 7, none⟩ = false)
theorem row8_of {t : TypeId} (h : w.heap[a]? = some (.cells (ndRow X) t (0, 0))) : Row8 w a X :=
  ⟨⟨(by rw [cell_of_row _ _ _ _ _ _ h]; rfl), (by rw [cell_of_row _ _ _ _ _ _ h]; rfl), (by rw [cell_of_row _ _ _ _ _ _ h]; rfl), (by rw [cell_of_row _ _ _ _ _ _ h]; rfl), (by rw [cell_of_row _ _ _ _ _ _ h]; rfl), (by rw [cell_of_row _ _ _ _ _ _ h]; rfl), (by rw [cell_of_row _ _ _ _ _ _ h]; rfl), (by rw [cell_of_row _ _ _ _ _ _ h]; rfl)⟩,
   ⟨frozen_of_row w a 0 _ _ h, frozen_of_row w a 1 _ _ h, frozen_of_row w a 2 _ _ h, frozen_of_row w a 3 _ _ h, frozen_of_row w a 4 _ _ h, frozen_of_row w a 5 _ _ h, frozen_of_row w a 6 _ _ h, frozen_of_row w a 7 _ _ h⟩⟩
theorem sz_al (w : World) (o : Obj) : (w.alloc o).heap.size = w.heap.size + 1 := by simp
end
end Go.Proofs.YtckkmmdibgoajaaGreat
set_option linter.unusedVariables false
set_option linter.unusedSimpArgs false
namespace Go.Proofs.YtckkmmdibgoajaaGreat
open Go.RowKit
/-- what lay there and is none of the arena's -/
def OldI (w : World) (F : Nat → Prop) (k : Nat) : Prop := k < w.heap.size ∧ ¬ F k
structure Ins (I : AImpl) (w : World) (F : Nat → Prop) (p : Value) (A : Ar) (rd : Int) (rs : List Row) (bs : List (Nat × Obj)) (wr : World) : Prop where
  mr : MR I 0 w wr p A rd (fun k => OldI w F k ∨ SG rs bs k)
  kp : Keeps (OldI w F) w wr
  rows : ∀ r ∈ rs, wr.ownsRow w.heap.size r.e r.s r.v r.n r.xs
  boxes : ∀ b ∈ bs, w.heap.size ≤ b.1 ∧ wr.heap[b.1]? = some b.2
  rr : rs.Pairwise fun x y => ∀ k, x.v.ownBlock = some k → y.v.ownBlock ≠ some k
  bb : bs.Pairwise fun x y => x.1 ≠ y.1
  rb : ∀ r ∈ rs, ∀ b ∈ bs, r.v.ownBlock ≠ some b.1
section
variable {I : AImpl} {w wr wx : World} {F : Nat → Prop} {p : Value} {A A' : Ar} {rd rd' : Int} {rs : List Row} {bs : List (Nat × Obj)}
theorem Ins.start (h : I.Is w p A rd F) : Ins I w F p A rd [] [] w :=
  ⟨⟨⟨F, h, fun _ _ => Nat.zero_le _, fun k hk => by (rcases hk with hk | ⟨r, hr, _⟩ | ⟨b, hb, _⟩; exact hk; cases hr; cases hb)⟩, Below.refl _ _, Nat.zero_le _⟩, fun _ _ => rfl, fun r hr => (by cases hr), fun b hb => (by cases hb), List.Pairwise.nil, List.Pairwise.nil, fun r hr => (by cases hr)⟩
theorem Ins.size (h : Ins I w F p A rd rs bs wr) : w.heap.size ≤ wr.heap.size := h.mr.below.size
theorem Ins.calm (h : Ins I w F p A rd rs bs wr) (hb : Below wr.heap.size wr wx) : Ins I w F p A rd rs bs wx :=
  ⟨h.mr.calm hb, fun k hk => (h.mr.keeps hb k (.inl hk)).trans (h.kp k hk), fun r hr => row_below (h.rows r hr) hb, fun b hb' => ⟨(h.boxes b hb').1, (h.mr.keeps hb b.1 (.inr (.inr ⟨b, hb', rfl⟩))).trans (h.boxes b hb').2⟩, h.rr, h.bb, h.rb⟩
theorem Ins.lt (h : Ins I w F p A rd rs bs wr) {k : Nat} (hk : SG rs bs k) : k < wr.heap.size := h.mr.lt (.inr hk)
/-- a new box -/
theorem Ins.box (h : Ins I w F p A rd rs bs wr) (cs : Array Value) (t : TypeId) : Ins I w F p A rd rs ((wr.heap.size, .cells cs t (0, 0)) :: bs) (wr.alloc (.cells cs t)) := by
  have hb := below_new7 wr (.cells cs t)
  have h' := h.calm hb
  refine ⟨h.mr.fresh hb fun k hk => ?_, h'.kp, h'.rows, fun b hb' => ?_, h.rr, List.pairwise_cons.2 ⟨fun b hb' e => ?_, h.bb⟩, fun r hr b hb' => ?_⟩
  · rcases hk with hk | hk | ⟨b, hb', rfl⟩
    · exact .inl (.inl hk)
    · exact .inl (.inr (.inl hk))
    · rcases List.mem_cons.1 hb' with rfl | hb'
      · exact .inr ⟨Nat.le_refl _, by simp⟩
      · exact .inl (.inr (.inr ⟨b, hb', rfl⟩))
  · rcases List.mem_cons.1 hb' with rfl | hb'
    · exact ⟨h.size, heap_alloc_new wr _⟩
    · exact h'.boxes b hb'
  · have := h.lt (.inr ⟨b, hb', rfl⟩)
    have e' : wr.heap.size = b.1 := e
    omega
  · rcases List.mem_cons.1 hb' with rfl | hb'
    · intro e
      have := h.lt (.inl ⟨r, hr, e⟩)
      exact Nat.lt_irrefl _ this
    · exact h.rb r hr b hb'
theorem Ins.less {rs' : List Row} {bs' : List (Nat × Obj)} (h : Ins I w F p A rd rs bs wr) (h1 : rs'.Sublist rs) (h2 : bs'.Sublist bs) : Ins I w F p A rd rs' bs' wr :=
  ⟨h.mr.less fun k hk => hk.imp_right fun hk => by (rcases hk with ⟨r, hr, hk⟩ | ⟨b, hb, hk⟩; exact .inl ⟨r, h1.subset hr, hk⟩; exact .inr ⟨b, h2.subset hb, hk⟩), h.kp, fun r hr => h.rows r (h1.subset hr), fun b hb => h.boxes b (h2.subset hb), h.rr.sublist h1, h.bb.sublist h2, fun r hr b hb => h.rb r (h1.subset hr) b (h2.subset hb)⟩
theorem Ins.perm {bs' : List (Nat × Obj)} (h : Ins I w F p A rd rs bs wr) (hp : bs.Perm bs') : Ins I w F p A rd rs bs' wr :=
  ⟨h.mr.less fun k hk => hk.imp_right fun hk => by (rcases hk with ⟨r, hr, hk⟩ | ⟨b, hb, hk⟩; exact .inl ⟨r, hr, hk⟩; exact .inr ⟨b, hp.mem_iff.2 hb, hk⟩), h.kp, h.rows, fun b hb => h.boxes b (hp.mem_iff.2 hb), h.rr, hp.pairwise h.bb (fun e e' => e e'.symm), fun r hr b hb => h.rb r hr b (hp.mem_iff.2 hb)⟩
/-- the first box is written anew -/
theorem Ins.set {g : Nat} {o o' : Obj} (h : Ins I w F p A rd rs ((g, o) :: bs) wr) (hw : wx.heap[g]? = some o') (ho : wx.os = wr.os ∧ wx.tape = wr.tape ∧ wx.output = wr.output ∧ wx.heap.size = wr.heap.size ∧ ∀ k, k ≠ g → wx.heap[k]? = wr.heap[k]?) :
    Ins I w F p A rd rs ((g, o') :: bs) wx := by
  obtain ⟨o1, o2, o3, o4, o5⟩ := ho
  obtain ⟨F1, f1, f2, f3⟩ := h.mr.has
  obtain ⟨h1, h2⟩ := List.pairwise_cons.1 h.bb
  have hg := (h.boxes (g, o) (by simp)).1
  have hgF := (f3 g (.inr (.inr ⟨(g, o), by simp, rfl⟩))).2
  refine ⟨⟨⟨F1, I.keep f1 fun k hk => o5 k fun e => hgF (e ▸ hk), f2, fun k hk => ?_⟩, h.mr.below.trans ⟨o1, o2, o3, Nat.le_of_eq o4.symm, fun k hk => absurd hk (Nat.not_lt_zero k)⟩, Nat.zero_le _⟩, fun k hk => (o5 k fun e => by subst e; have := hk.1; have hg' : w.heap.size ≤ k := hg; omega).trans (h.kp k hk), fun r hr => row_keep (h.rows r hr) fun k hk => o5 k fun e => h.rb r hr (g, o) (by simp) (e ▸ hk), fun b hb => ?_, h.rr, List.pairwise_cons.2 ⟨h1, h2⟩, fun r hr b hb => ?_⟩
  · have : OldI w F k ∨ SG rs ((g, o) :: bs) k := hk.imp_right fun hk => by
      rcases hk with hk | ⟨b, hb, rfl⟩
      · exact .inl hk
      · rcases List.mem_cons.1 hb with rfl | hb
        · exact .inr ⟨(g, o), by simp, rfl⟩
        · exact .inr ⟨b, by simp [hb], rfl⟩
    exact ⟨by rw [o4]; exact (f3 k this).1, (f3 k this).2⟩
  · rcases List.mem_cons.1 hb with rfl | hb
    · exact ⟨hg, hw⟩
    · exact ⟨(h.boxes b (by simp [hb])).1, (o5 b.1 (fun e => h1 b hb e.symm)).trans (h.boxes b (by simp [hb])).2⟩
  · rcases List.mem_cons.1 hb with rfl | hb
    · exact h.rb r hr (g, o) (by simp)
    · exact h.rb r hr b (by simp [hb])
theorem Ins.put {g : Nat} {X Y : Nd} (h : Ins I w F p A rd rs ((g, Obj.cells (ndRow X) 64 (0, 0)) :: bs) wr) : Ins I w F p A rd rs ((g, Obj.cells (ndRow Y) 64 (0, 0)) :: bs) (put8 wr g Y) :=
  h.set (put8_same (h.boxes _ (List.Mem.head _)).2) ⟨(put8_below (n0 := 0) (Nat.zero_le _)).os, (put8_below (n0 := 0) (Nat.zero_le _)).tape, (put8_below (n0 := 0) (Nat.zero_le _)).output, put8_size wr g Y, fun k hk => put8_other wr g Y hk⟩
/-- a call that alters the arena -/
theorem Ins.mut {f : FuncId} {args : Array Value} {Q : Ending → Ar → Int → Prop} (h : Ins I w F p A rd rs bs wr) (hc : ∀ F1, I.Is wr p A rd F1 → Calls Tryz.prog f args wr (Mut I p F1 Q wr)) :
    Calls Tryz.prog f args wr fun e w' => ∃ A' rd', Q e A' rd' ∧ Ins I w F p A' rd' rs bs w' := by
  obtain ⟨F1, f1, f2, f3⟩ := h.mr.has
  refine (hc F1 f1).mono ?_
  rintro e w1 ⟨F', A', rd', hal, hI, hq⟩
  have hst := h.mr.stepA f2 f3 hal hI
  exact ⟨A', rd', hq, hst.1, fun k hk => (hst.2 k (.inl hk)).trans (h.kp k hk), fun r hr => row_keep (h.rows r hr) fun k hk' => hst.2 k (.inr (.inl ⟨r, hr, hk'⟩)), fun b hb => ⟨(h.boxes b hb).1, (hst.2 b.1 (.inr (.inr ⟨b, hb, rfl⟩))).trans (h.boxes b hb).2⟩, h.rr, h.bb, h.rb⟩
/-- a call that reads -/
theorem Ins.call {bd : Int} {v : Value} {f : FuncId} {args : Array Value} (h : Ins I w F p A rd rs bs wr) (hc : ∀ F1, I.Is wr p A rd F1 → Calls Tryz.prog f args wr (ReadsTo I p A rd F1 bd v wr)) :
    Calls Tryz.prog f args wr fun e w' => e = .returned v ∧ ∃ rd', Ins I w F p A rd' rs bs w' ∧ rd ≤ rd' ∧ rd' ≤ rd + bd := by
  refine (h.mut (Q := fun e A' rd' => e = .returned v ∧ A' = A ∧ rd ≤ rd' ∧ rd' ≤ rd + bd) fun F1 hI => (hc F1 hI).mono fun e w' ⟨F', rd', h1, h2, h3, h4, h5⟩ => ⟨F', A, rd', h2, h3, h1, rfl, h4, h5⟩).mono ?_
  rintro e w1 ⟨A', rd', ⟨h1, rfl, h4, h5⟩, h6⟩
  exact ⟨h1, rd', h6, h4, h5⟩
theorem Ins.ends (h : Ins I w F p A rd rs bs wr) : ∃ F', Alters F F' w wr ∧ I.Is wr p A rd F' := by
  obtain ⟨F', f1, f2, f3⟩ := h.mr.has
  refine ⟨F', ⟨h.mr.below.os, h.mr.below.tape, h.mr.below.output, h.mr.below.size, fun k hlt hF => h.kp k ⟨hlt, hF⟩, fun k hF' => ?_⟩, f1⟩
  by_cases hlt : k < w.heap.size
  · by_cases hF : F k
    · exact .inl hF
    · exact absurd hF' (f3 k (.inl ⟨hlt, hF⟩)).2
  · exact .inr (by omega)
theorem Ins.node (h : Ins I w F p A rd rs bs wr) (h0 : 0 ≤ rd) (h1 : rd ≤ 4398046511104) {i : Nat} (hi : i < 4294967296) (hon : A.σ.on i = true) :
    Calls Tryz.prog 35 #[p, .int .u32 (i : Int)] wr fun e w' => e = .returned (.tuple #[.agg (ndRow (A.nd i)), .bool true]) ∧ Ins I w F p A (rd + 1) rs bs w' := by
  refine (h.mut (Q := fun e A' rd' => e = .returned (.tuple #[.agg (ndRow (A.nd i)), .bool true]) ∧ A' = A ∧ rd' = rd + 1) fun F1 hI => (I.node p A rd F1 i wr hI h0 (by omega) hi).mono fun e w' ⟨F', hal, _, h6⟩ => ⟨F', A, rd + 1, hal, (h6 hon).2, (h6 hon).1, rfl, rfl⟩).mono ?_
  rintro e w1 ⟨A', rd', ⟨hq1, rfl, rfl⟩, h6⟩
  exact ⟨hq1, h6⟩
theorem Ins.node_no (h : Ins I w F p A rd rs bs wr) (h0 : 0 ≤ rd) (h1 : rd ≤ 4398046511104) {i : Nat} (hi : i < 4294967296) (hon : A.σ.on i = false) :
    Calls Tryz.prog 35 #[p, .int .u32 (i : Int)] wr fun e w' => e = .returned (.tuple #[.agg (ndRow Nd.zero), .bool false]) ∧ Ins I w F p A rd rs bs w' := by
  refine (h.mut (Q := fun e A' rd' => e = .returned (.tuple #[.agg (ndRow Nd.zero), .bool false]) ∧ A' = A ∧ rd' = rd) fun F1 hI => (I.node p A rd F1 i wr hI h0 (by omega) hi).mono fun e w' ⟨F', hal, h6, _⟩ => ⟨F', A, rd, hal, (h6 hon).2, (h6 hon).1, rfl, rfl⟩).mono ?_
  rintro e w1 ⟨A', rd', ⟨h5, rfl, rfl⟩, h6⟩
  exact ⟨h5, h6⟩
/-- Size of an index: 0 for the empty tree, and then no read -/
theorem Ins.sz (h : Ins I w F p A rd rs bs wr) (h0 : 0 ≤ rd) (h1 : rd ≤ 4398046511104) {i : Nat} (hi : i < 4294967296) (hx : A.Idx i) (hok : A.σ.Ok) :
    Calls Tryz.prog 46 #[p, .int .u32 (i : Int)] wr fun e w' => e = .returned (.int .i64 (A.sz i)) ∧ Ins I w F p A (rd + if i = 0 then 0 else 1) rs bs w' := by
  refine (h.mut (Q := fun e A' rd' => e = .returned (.int .i64 (A.sz i)) ∧ A' = A ∧ rd' = rd + if i = 0 then 0 else 1) fun F1 hI => (I.size p A rd F1 i wr hI h0 (by omega) hi).mono fun e w' ⟨F', hal, h6, h7⟩ => ?_).mono ?_
  · by_cases e0 : i = 0
    · subst e0
      have hoff : A.σ.on 0 = false := by
        cases ho : A.σ.on 0
        · rfl
        · have := hok.on 0 ho; omega
      exact ⟨F', A, rd, hal, (h6 hoff).2, (h6 hoff).1, rfl, by rw [if_pos rfl]; omega⟩
    · have hon := hx.resolve_left e0
      exact ⟨F', A, rd + 1, hal, (h7 hon).2, by rw [(h7 hon).1]; unfold Ar.sz; rw [if_neg e0], rfl, by rw [if_neg e0]⟩
  · rintro e w1 ⟨A', rd', ⟨hq1, rfl, rfl⟩, h6⟩
    exact ⟨hq1, h6⟩
theorem Ins.free (h : Ins I w F p A rd rs bs wr) : Calls Tryz.prog 20 #[p] wr fun e w' => e = .returned (.int .i64 (A.σ.free.length : Int)) ∧ Ins I w F p A rd rs bs w' := by
  obtain ⟨F1, f1, _⟩ := h.mr.has
  exact (I.freeN p A rd F1 wr f1).mono fun e w1 ⟨h3, q, h4⟩ => ⟨h3, by subst h4; exact h.calm (below_drewN (Below.refl _ _) _)⟩
theorem Ins.make (h : Ins I w F p A rd rs bs wr) {held : Nat → Nat} (hv : A.Inv [] held) (ha : A.Agg) (hm : ∀ j, held j ≤ 1048576) {key val : Int} {l r i : Nat} {t : List Nat} (hk : i64R key) (hw : i64R val) (hl : A.Idx l) (hr : A.Idx r) (hs : (A.node key val l r).size ≤ 2147483647) (hf : A.σ.free = i :: t) :
    Calls Tryz.prog 77 #[p, .int .i64 key, .int .i64 val, .int .u32 (l : Int), .int .u32 (r : Int)] wr fun e w' => e = .returned (.tuple #[.int .u32 (i : Int), .int .i64 0]) ∧ Ins I w F p (A.made i t (A.node key val l r)) rd rs bs w' := by
  have hlt : ∀ {x}, A.Idx x → x < 4294967296 := fun {x} hx => by
    rcases hx with rfl | hx
    · omega
    · have := hv.ok.on x hx; have := hv.ok.cap2; omega
  refine (h.mut (Q := fun e A' rd' => e = .returned (.tuple #[.int .u32 (i : Int), .int .i64 0]) ∧ A' = A.made i t (A.node key val l r) ∧ rd' = rd) fun F1 hI => (I.make p A rd F1 key val l r held wr hI hv ha hm hk.1 hk.2 hw.1 hw.2 (hlt hl) (hlt hr)).mono fun e w' ⟨F', hal, _, _, h6⟩ => ?_).mono ?_
  · obtain ⟨h7, h8⟩ := h6 ⟨hl, hr, hs⟩ i t hf
    exact ⟨F', _, rd, hal, h8, h7, rfl, rfl⟩
  · rintro e w1 ⟨A', rd', ⟨hq1, rfl, rfl⟩, h6⟩
    exact ⟨hq1, h6⟩
theorem Ins.release (h : Ins I w F p A rd rs bs wr) {held : Nat → Nat} {i : Nat} (hi : i < 4294967296) (hx : A.Idx i) (hv : A.Inv [i] held) :
    Calls Tryz.prog 72 #[p, .int .u32 (i : Int)] wr fun e w' => e = .returned (.tuple #[.int .i64 (A.freed i : Int), .int .i64 0]) ∧ Ins I w F p (A.gone i) rd rs bs w' := by
  refine (h.mut (Q := fun e A' rd' => e = .returned (.tuple #[.int .i64 (A.freed i : Int), .int .i64 0]) ∧ A' = A.gone i ∧ rd' = rd) fun F1 hI => (I.release p A rd F1 i held wr hI hi (fun _ => hv)).mono fun e w' ⟨F', hal, _, h6⟩ => ⟨F', _, rd, hal, (h6 hx).2, (h6 hx).1, rfl, rfl⟩).mono ?_
  rintro e w1 ⟨A', rd', ⟨hq1, rfl, rfl⟩, h6⟩
  exact ⟨hq1, h6⟩
theorem Ins.retain (h : Ins I w F p A rd rs bs wr) {i : Nat} (hi : i < 4294967296) (hx : A.Idx i) (hc : A.cnt i < 4611686018427387904) :
    Calls Tryz.prog 51 #[p, .int .u32 (i : Int)] wr fun e w' => e = .returned (.int .i64 0) ∧ Ins I w F p (A.ret i) rd rs bs w' := by
  refine (h.mut (Q := fun e A' rd' => e = .returned (.int .i64 0) ∧ A' = A.ret i ∧ rd' = rd) fun F1 hI => (I.retain p A rd F1 i wr hI hi (fun _ => hc)).mono fun e w' ⟨F', hal, _, h6⟩ => ⟨F', _, rd, hal, (h6 hx).2, (h6 hx).1, rfl, rfl⟩).mono ?_
  rintro e w1 ⟨A', rd', ⟨hq1, rfl, rfl⟩, h6⟩
  exact ⟨hq1, h6⟩
end
end Go.Proofs.YtckkmmdibgoajaaGreat
set_option linter.unusedVariables false
set_option linter.unusedSimpArgs false
namespace Go.Proofs.YtckkmmdibgoajaaGreat
open Go.RowKit
theorem off_zeroB {A : Ar} {held : Nat → Nat} (hv : A.Inv [] held) : A.σ.on 0 = false := by
  cases ho : A.σ.on 0
  · rfl
  · have := hv.ok.on 0 ho; omega
theorem sz_rng {A : Ar} (ha : A.Agg) {x : Nat} (hx : A.Idx x) : 0 ≤ A.sz x ∧ A.sz x ≤ 2147483647 := by
  refine ⟨sz_nonneg ha hx, ?_⟩
  unfold Ar.sz
  by_cases h0 : x = 0
  · rw [if_pos h0]; decide
  · rw [if_neg h0]; exact (ha.size x (hx.resolve_left h0)).2
theorem sz_pos {A : Ar} (ha : A.Agg) {held : Nat → Nat} (hv : A.Inv [] held) {x : Nat} (hx : A.Idx x) (h0 : x ≠ 0) : 0 < A.sz x := by
  have hon := hx.resolve_left h0
  have h1 := sz_child ha hon
  have c := hv.child x hon
  have z1 := sz_nonneg ha c.1
  have z2 := sz_nonneg ha c.2
  unfold Ar.sz
  rw [if_neg h0]
  omega
/-- a rotation that has its form and its slots -/
def TurnQ (A : Ar) (rd bd : Int) (held : Nat → Nat) (k i : Nat) (en : Ending) (B : Ar) (rd' : Int) : Prop :=
  rd ≤ rd' ∧ rd' ≤ rd + bd ∧ ∃ j : Nat, en = .returned (.tuple #[.int .u32 (j : Int), .int .i64 0]) ∧ Turned A held B j (rneed k) ∧ RNodes A B k i j
theorem RotSpec.ok {I : AImpl} {f : FuncId} {k : Nat} (hf : RotSpec I f k) {p : Value} {A : Ar} {rd : Int} {F : Nat → Prop} {held : Nat → Nat} {i : Nat} {w : World} (hI : I.Is w p A rd F) (hv : A.Inv [] held) (ha : A.Agg) (hwf : WfNear A i) (hm : ∀ j, held j ≤ 1048500) (h0 : 0 ≤ rd) (h1 : rd ≤ 2199023255552) (hi : i < 4294967296) (hform : rform A k i = true) (hn : rneed k ≤ A.σ.free.length) :
    Calls Tryz.prog f #[p, .int .u32 (i : Int)] w (Mut I p F (TurnQ A rd 4 held k i) w) := by
  refine (hf w hI hv ha hwf hm h0 h1 hi).mono ?_
  rintro e w1 ⟨F', rd', hal, hr0, hr1, hq⟩
  rcases hq with ⟨q1, -⟩ | ⟨-, q2, -⟩ | ⟨-, -, B, j, q4, q5, q6, q7⟩
  · rw [hform] at q1; cases q1
  · omega
  · exact ⟨F', B, rd', hal, q7, hr0, hr1, j, q6, q4, q5⟩
theorem alone_off {A : Ar} {held : Nat → Nat} (hv : A.Inv [] held) {i : Nat} (h : A.σ.on i = false) : held i = 0 := by
  rcases Nat.eq_zero_or_pos (held i) with h0 | h0
  · exact h0
  · have := hv.held i h0; rw [h] at this; cases this
/-- behind a rotation the root that was rotated is given back, and its slot becomes free -/
theorem turn_end {A A1 C : Ar} {held : Nat → Nat} {i j k : Nat} (hM : Mid A held A1 [i]) (hal : Alone A1 i) (hoff : A.σ.on i = false) (hi : A1.σ.on i = true) (hf : rform A1 k i = true) (hk : k < 4) (ht : Turned A1 (plL held [i]) C j (rneed k)) (hr : RNodes A1 C k i j) :
    C.Inv [i] (plL held [j]) ∧ C.Idx i ∧ Mid A held (C.gone i) [j] ∧ A1.σ.free.length ≤ (C.gone i).σ.free.length + 2 ∧ ∀ t l, At C j t l → At (C.gone i) j t l := by
  obtain ⟨m1, m2, m3, m4⟩ := hM.rot ht
  obtain ⟨g1, g2, g3, g4, g5, g6⟩ := (m1.perm (List.Perm.swap i j [])).give
  have h0 : i ≠ 0 := by have := hM.inv.ok.on i hi; omega
  have hC : Alone C i := rot_alone hal hM.inv hi hf hk ht hr
  have hji : j ≠ i := fun e => by
    subst e
    obtain ⟨N, n1, n2, n3⟩ := hr.news hi hf hk ht.agg hM.inv ht.inv
    have hnew : NewIn A1 C j := by
      unfold RNodes at hr
      split at hr
      · obtain ⟨z, h1, _⟩ := hr; exact h1
      · obtain ⟨z, h1, _⟩ := hr; exact h1
      · obtain ⟨y, z, _, h1, _⟩ := hr; exact h1
      · obtain ⟨y, z, _, h1, _⟩ := hr; exact h1
    have h2 := hnew.2
    rw [hi] at h2
    cases h2
  have hh : plL held [j] i = 0 := by
    rw [plL_cons, plL_nil, pls_at, alone_off hM.base hoff, if_neg (fun q => hji q.2.symm)]
  have hon : C.σ.on i = true := ht.kept.on i hi
  have hfr := hC.frees g1 m1.agg h0 hon hh
  have hn : rneed k ≤ 3 := by unfold rneed; split <;> omega
  have hjdx : (C.gone i).Idx j := g5 j (by simp) (.inr (ht.inv.held j (by unfold more; rw [if_pos rfl]; omega)))
  exact ⟨g1, g2, g3, by omega, fun t l h => h.gone g3.inv hjdx⟩
/-- a call made a tree j over A, where x is held; then x is given back -/
theorem nest_give {A0 A B : Ar} {held : Nat → Nat} {x j : Nat} {t : Tr} {l : List En} (hM : Mid A0 held A [x]) (hB : Mid A (plL held [x]) B [j]) (hj : At B j t l) :
    B.Inv [x] (plL held [j]) ∧ B.Idx x ∧ Mid A0 held (B.gone x) [j] ∧ B.σ.free.length ≤ (B.gone x).σ.free.length ∧ At (B.gone x) j t l := by
  have hn : Mid A0 held B [j, x] := hM.nest hB
  obtain ⟨g1, g2, g3, g4, g5, g6⟩ := (hn.perm (List.Perm.swap x j [])).give
  exact ⟨g1, g2, g3, g4, hj.gone g3.inv (g5 j (by simp) hj.idx)⟩
theorem WfL.left {a b : List En} (h : WfL (a ++ b)) : WfL a := fun y hy => h y (by simp [hy])
theorem WfL.right {a b : List En} (h : WfL (a ++ b)) : WfL b := fun y hy => h y (by simp [hy])
theorem WfL.tail {e : En} {b : List En} (h : WfL (e :: b)) : WfL b := fun y hy => h y (by simp [hy])
theorem WfL.mid {a b : List En} {e : En} (ha : WfL a) (he : i64R e.key ∧ i64R e.val) (hb : WfL b) : WfL (a ++ e :: b) := fun y hy => by
  rcases List.mem_append.1 hy with h | h
  · exact ha y h
  · rcases List.mem_cons.1 h with rfl | h
    · exact he
    · exact hb y h
theorem wf_near2 {B : Ar} {hd : Nat → Nat} (hv : B.Inv [] hd) {i L R : Nat} {e : En} {tl tr : Tr} {ll lr : List En} (hon : B.σ.on i = true) (hn : (B.nd i).key = e.key ∧ (B.nd i).val = e.val ∧ (B.nd i).left = L ∧ (B.nd i).right = R) (hL : At B L tl ll) (hR : At B R tr lr) (hw : WfL (ll ++ e :: lr)) (he : i64R e.key ∧ i64R e.val) : WfNear B i := by
  have hz := off_zeroB hv
  have hz2 := (hv.off 0 hz).2
  have w1 := hw.left
  have w2 := hw.right.tail
  have key : ∀ {x : Nat} {t' : Tr} {l' : List En}, At B x t' l' → WfL l' → B.σ.on x = true → (i64R (B.nd x).key ∧ i64R (B.nd x).val) := fun {x t' l'} h1 h2 h3 => by
    have hx0 : x ≠ 0 := fun e => by subst e; rw [hz] at h3; cases h3
    obtain ⟨tl, tr, ll, lr, -, rfl, -, -, -⟩ := h1.split hx0
    exact h2 ⟨(B.nd x).key, (B.nd x).val⟩ (by simp)
  intro x hx hox
  have hx0 : x ≠ 0 := fun e => by subst e; rw [hz] at hox; cases hox
  rw [hn.2.2.1, hn.2.2.2] at hx
  rcases hx with rfl | rfl | rfl | rfl | rfl
  · rw [hn.1, hn.2.1]; exact he
  · exact key hL w1 hox
  · exact key hR w2 hox
  · by_cases hl0 : L = 0
    · rw [hl0, hz2] at hx0
      exact absurd rfl hx0
    · obtain ⟨tc, td, lc, ld, -, rfl, -, hD, -⟩ := hL.split hl0
      exact key hD w1.right.tail hox
  · by_cases hl0 : R = 0
    · rw [hl0, hz2] at hx0
      exact absurd rfl hx0
    · obtain ⟨tc, td, lc, ld, -, rfl, hC, -, -⟩ := hR.split hl0
      exact key hC w2.left hox
/-- what balance answers: a tree over two trees; how many slots it takes -/
def BalQ (A0 A : Ar) (rd : Int) (held : Nat → Nat) (ll lr : List En) (e : En) (en : Ending) (B : Ar) (rd' : Int) : Prop :=
  rd ≤ rd' ∧ rd' ≤ rd + 9 ∧ ∃ (j : Nat) (t : Tr), en = .returned (.tuple #[.int .u32 (j : Int), .int .i64 0]) ∧ Mid A0 held B [j] ∧ At B j t (ll ++ e :: lr) ∧ (wbL ll lr → A.σ.free.length ≤ B.σ.free.length + 1) ∧ A.σ.free.length ≤ B.σ.free.length + 3
/-- the two sides are balanced, or the one is too heavy by so little that one rotation is enough -/
def HbL (ll lr : List En) : Prop := wbL ll lr ∨ (3 * (ll.length + 1) < lr.length + 1 ∧ hv (ll.length + 1) (lr.length + 1)) ∨ (3 * (lr.length + 1) < ll.length + 1 ∧ hv (lr.length + 1) (ll.length + 1))
end Go.Proofs.YtckkmmdibgoajaaGreat
