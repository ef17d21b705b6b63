/- Trees that are planted in an arena: what is there stays; a node over two planted trees; plain. The keys and the values of an arena's nodes are numbers of 64 bits. Plain. -/
import Derived.Test.YtkhfofpbmnapjaaTrees
import Derived.Test.YtkhfofpbmnapjaaEns
import Derived.Test.YtkhfofpbmnapjaaArenaChain
set_option linter.unusedVariables false
namespace Go.Proofs.Ytkhfofpbmnapjaa

/-- what was there stays, nodes and all -/
structure Ar.Kept (A B : Ar) : Prop where
  cap : B.σ.cap = A.σ.cap
  on : ∀ j, A.σ.on j = true → B.σ.on j = true
  nd : ∀ j, A.σ.on j = true → B.nd j = A.nd j
theorem Ar.Kept.refl (A : Ar) : A.Kept A := ⟨rfl, fun _ h => h, fun _ _ => rfl⟩
theorem Ar.Kept.trans {A B C : Ar} (h : A.Kept B) (h' : B.Kept C) : A.Kept C := ⟨h'.cap.trans h.cap, fun j hj => h'.on j (h.on j hj), fun j hj => (h'.nd j (h.on j hj)).trans (h.nd j hj)⟩
theorem Ar.Kept.dec (A : Ar) (i : Nat) : A.Kept (A.dec i) := ⟨rfl, fun _ h => h, fun _ _ => rfl⟩
theorem Ar.Kept.idx {A B : Ar} (h : A.Kept B) {i : Nat} (hi : i = 0 ∨ A.σ.on i = true) : i = 0 ∨ B.σ.on i = true := hi.imp_right (h.on i)
theorem Ar.Kept.made {A : Ar} {i : Nat} {t : List Nat} (x : Nd) {s : List Nat} {held : Nat → Nat} (h : A.Inv s held) (hf : A.σ.free = i :: t) : A.Kept (A.made i t x) := by
  have hi := ((h.ok.free i).1 (by rw [hf]; simp)).2.2
  have hne : ∀ j, A.σ.on j = true → j ≠ i := fun j hj e => by subst e; rw [hi] at hj; cases hj
  exact ⟨rfl, fun j hj => (take_other A.σ t (hne j hj)).trans hj, fun j hj => if_neg (hne j hj)⟩
theorem Sub.kept {A B : Ar} (hk : A.Kept B) {i : Nat} {t : Tr} (h : Sub A i t) : Sub B i t := by
  induction h with
  | nil => exact .nil
  | node i l r h0 h1 hl hr ihl ihr => exact .node i l r h0 (hk.on i h1) (by rw [hk.nd i h1]; exact ihl) (by rw [hk.nd i h1]; exact ihr)
theorem Sub.on {A : Ar} {i : Nat} {t : Tr} (h : Sub A i t) : ∀ j ∈ t.idx, A.σ.on j = true := by
  induction h with
  | nil => intro j hj; cases hj
  | node i l r h0 h1 hl hr ihl ihr =>
    intro j hj
    unfold Tr.idx at hj
    rcases List.mem_append.1 hj with hj | hj
    · exact ihl j hj
    · rcases List.mem_cons.1 hj with rfl | hj
      · exact h1
      · exact ihr j hj
/-- the entries in the order of the tree -/
def Tr.ents (nd : Nat → Nd) (t : Tr) : List En := t.idx.map fun i => ⟨(nd i).key, (nd i).val⟩
theorem Tr.ents_node (nd : Nat → Nd) (i : Nat) (l r : Tr) : (Tr.node i l r).ents nd = l.ents nd ++ ⟨(nd i).key, (nd i).val⟩ :: r.ents nd := by simp [Tr.ents, Tr.idx]
theorem Tr.ents_keys (nd : Nat → Nd) (t : Tr) : t.keys nd = (t.ents nd).map (·.key) := by simp [Tr.keys, Tr.ents]
theorem Tr.idx_len : ∀ t : Tr, t.idx.length = t.size
  | .nil => rfl
  | .node i l r => by simp [Tr.idx, Tr.size, Tr.idx_len l, Tr.idx_len r]; omega
theorem Tr.ents_len (nd : Nat → Nd) (t : Tr) : (t.ents nd).length = t.size := by unfold Tr.ents; rw [List.length_map, Tr.idx_len]
theorem Tr.ents_kept {A B : Ar} (hk : A.Kept B) {i : Nat} {t : Tr} (h : Sub A i t) : t.ents B.nd = t.ents A.nd := by
  unfold Tr.ents
  exact List.map_congr_left fun j hj => by rw [hk.nd j (h.on j hj)]
/-- balanced, by the sizes of the trees -/
def Tr.bal : Tr → Bool
  | .nil => true
  | .node i l r => Proofs.Ytkhfofpbmnapjaa.bal (l.size : Int) (r.size : Int) && l.bal && r.bal
theorem balT_bal {A : Ar} (ha : A.Agg) {i : Nat} {t : Tr} (h : Sub A i t) : balT A t = t.bal := by
  induction h with
  | nil => rfl
  | node i l r h0 h1 hl hr ihl ihr => unfold balT Tr.bal; rw [hl.size ha, hr.size ha, ihl, ihr]
/-- a reference more, of 0 none -/
def pls (held : Nat → Nat) (i : Nat) : Nat → Nat := if i = 0 then held else more held i
theorem pls_zero (held : Nat → Nat) : pls held 0 = held := rfl
theorem pls_at (held : Nat → Nat) (i j : Nat) : pls held i j = held j + (if i ≠ 0 ∧ j = i then 1 else 0) := by
  unfold pls more
  by_cases h : i = 0
  · rw [if_pos h, if_neg (fun h1 => h1.1 h)]; rfl
  · rw [if_neg h]
    by_cases e : j = i
    · subst e; show (if j = j then _ else _) = _; rw [if_pos rfl, if_pos ⟨h, rfl⟩]
    · show (if j = i then _ else _) = _; rw [if_neg e, if_neg (fun h1 => e h1.2)]; rfl
theorem more_pls {held : Nat → Nat} {i : Nat} (h : i ≠ 0) : more held i = pls held i := by unfold pls; rw [if_neg h]
/-- a reference less, of 0 none -/
def mns (held : Nat → Nat) (i : Nat) : Nat → Nat := if i = 0 then held else less held i
theorem mns_at (held : Nat → Nat) (i j : Nat) : mns held i j = held j - (if i ≠ 0 ∧ j = i then 1 else 0) := by
  unfold mns less
  by_cases h : i = 0
  · rw [if_pos h, if_neg (fun h1 => h1.1 h)]; rfl
  · rw [if_neg h]
    by_cases e : j = i
    · subst e; show (if j = j then _ else _) = _; rw [if_pos rfl, if_pos ⟨h, rfl⟩]
    · show (if j = i then _ else _) = _; rw [if_neg e, if_neg (fun h1 => e h1.2)]; rfl
/-- a held reference given back where another one is there -/
theorem Ar.Inv.shared {A : Ar} {held : Nat → Nat} (h : A.Inv [] held) {i : Nat} (hi : i ≠ 0 → 0 < held i ∧ 2 ≤ A.cnt i) (ha : A.Agg) :
    (A.Idx i → A.Inv [i] (mns held i)) ∧ A.Idx i ∧ (A.gone i).Inv [] (mns held i) ∧ (A.gone i).Agg ∧ A.Kept (A.gone i) ∧ (A.gone i).σ = A.σ ∧ ∀ j, (A.gone i).cnt j = A.cnt j - (if i ≠ 0 ∧ j = i then 1 else 0) := by
  by_cases h0 : i = 0
  · subst h0
    rw [(gone_zero A).1]
    exact ⟨fun _ => h.give0, .inl rfl, h, ha, .refl A, rfl, fun j => by rw [if_neg (fun h => h.1 rfl)]; omega⟩
  · obtain ⟨h1, h2⟩ := hi h0
    have hon := h.held i h1
    rw [(gone_shared h0 (by omega)).1]
    have e : mns held i = less held i := by unfold mns; rw [if_neg h0]
    rw [e]
    refine ⟨fun _ => h.give h1, .inr hon, (h.give h1).popDec hon h2, ha.dec i, .dec A i, rfl, fun j => ?_⟩
    show (if j = i then A.cnt i - 1 else A.cnt j) = _
    by_cases e2 : j = i
    · subst e2; rw [if_pos rfl, if_pos ⟨h0, rfl⟩]
    · rw [if_neg e2, if_neg (fun h => e2 h.2)]; omega
structure Planted (A : Ar) (held : Nat → Nat) (l : List En) (A' : Ar) (i : Nat) (t : Tr) : Prop where
  kept : A.Kept A'
  inv : A'.Inv [] (pls held i)
  agg : A'.Agg
  sub : Sub A' i t
  ents : t.ents A'.nd = l
  bal : t.bal = true
  free : A'.σ.free.length + l.length = A.σ.free.length
theorem Planted.nil {A : Ar} {held : Nat → Nat} (h : A.Inv [] held) (ha : A.Agg) : Planted A held [] A 0 .nil := ⟨.refl A, h, ha, .nil, rfl, rfl, rfl⟩
theorem Planted.size {A A' : Ar} {held : Nat → Nat} {l : List En} {i : Nat} {t : Tr} (h : Planted A held l A' i t) : t.size = l.length := by rw [← h.ents, Tr.ents_len]
theorem Planted.sz {A A' : Ar} {held : Nat → Nat} {l : List En} {i : Nat} {t : Tr} (h : Planted A held l A' i t) : A'.sz i = (l.length : Int) := by rw [h.sub.size h.agg, h.size]
theorem sub_sz_kept {A B : Ar} (hA : A.Agg) (hB : B.Agg) (hk : A.Kept B) {i : Nat} {t : Tr} (h : Sub A i t) : B.sz i = A.sz i := by rw [h.size hA, (h.kept hk).size hB]
/-- the state behind Make and the two releases -/
def Ar.over (A : Ar) (i : Nat) (tl : List Nat) (x : Nd) : Ar := ((A.made i tl x).gone x.left).gone x.right
theorem made_cnt {A : Ar} {held : Nat → Nat} {i : Nat} {tl : List Nat} {x : Nd} (h : A.Inv [] held) (hf : A.σ.free = i :: tl) {j : Nat} (hj : A.σ.on j = true) : (A.made i tl x).cnt j = A.cnt j + (hit x.left j : Int) + (hit x.right j : Int) := by
  have hi := ((h.ok.free i).1 (by rw [hf]; simp)).2.2
  have hne : j ≠ i := fun e => by subst e; rw [hi] at hj; cases hj
  have h0 := (h.ok.on j hj).1
  show (if j = i then (1 : Int) else if j = 0 then A.cnt 0 else A.cnt j + _ + _) = _
  rw [if_neg hne, if_neg (by omega)]
theorem over_ok {A : Ar} {held : Nat → Nat} {i : Nat} {tl : List Nat} {key val : Int} {il ir : Nat} {x : Nd} (hx : x = A.node key val il ir) (h : A.Inv [] (pls (pls held il) ir)) (ha : A.Agg) (hf : A.σ.free = i :: tl) (hl : il = 0 ∨ A.σ.on il = true) (hr : ir = 0 ∨ A.σ.on ir = true) (hs : x.size ≤ 2147483647) :
    (A.over i tl x).Inv [] (pls held i) ∧ (A.over i tl x).Agg ∧ A.Kept (A.over i tl x) ∧ (A.over i tl x).σ = A.σ.take i tl ∧ (A.over i tl x).nd i = x ∧ i ≠ 0 ∧
    ((A.made i tl x).Idx il → (A.made i tl x).Inv [il] (mns (more (pls (pls held il) ir) i) il)) ∧ (A.made i tl x).Idx il ∧
    (((A.made i tl x).gone il).Idx ir → ((A.made i tl x).gone il).Inv [ir] (mns (mns (more (pls (pls held il) ir) i) il) ir)) ∧ ((A.made i tl x).gone il).Idx ir := by
  have hi := (h.ok.free i).1 (by rw [hf]; simp)
  have h1 := h.made (x := x) hf (by rw [hx]; exact hl) (by rw [hx]; exact hr)
  have ha1 : (A.made i tl x).Agg := by rw [hx]; exact ha.made h hf hl hr (by rw [← hx]; exact hs)
  have ex : x.left = il ∧ x.right = ir := by rw [hx]; exact ⟨rfl, rfl⟩
  have hne : ∀ j, A.σ.on j = true → j ≠ i := fun j hj e => by subst e; rw [hi.2.2] at hj; cases hj
  have pl := fun j => pls_at (pls held il) ir j
  have pl2 := fun j => pls_at held il j
  have c1 : il ≠ 0 → 0 < more (pls (pls held il) ir) i il ∧ 2 ≤ (A.made i tl x).cnt il := fun h0 => by
    have hon := hl.resolve_left h0
    refine ⟨?_, ?_⟩
    · unfold more
      rw [if_neg (hne il hon), pl, pl2, if_pos ⟨h0, rfl⟩]; omega
    · rw [made_cnt h hf hon, ex.1]
      have := h.pos il hon
      have e : hit il il = 1 := if_pos rfl
      rw [e]; omega
  obtain ⟨g1, g2, g3, g4, g5, g6, g7⟩ := h1.shared c1 ha1
  have c2 : ir ≠ 0 → 0 < mns (more (pls (pls held il) ir) i) il ir ∧ 2 ≤ ((A.made i tl x).gone il).cnt ir := fun h0 => by
    have hon := hr.resolve_left h0
    refine ⟨?_, ?_⟩
    · rw [mns_at]
      unfold more
      rw [if_neg (hne ir hon), pl, pl2]
      rw [if_pos (show ir ≠ 0 ∧ ir = ir from ⟨h0, rfl⟩)]
      split <;> omega
    · rw [g7, made_cnt h hf hon, ex.1, ex.2]
      have := h.pos ir hon
      have e : hit ir ir = 1 := if_pos rfl
      rw [e]
      unfold hit
      by_cases e2 : il = ir
      · rw [if_pos e2, if_pos ⟨by omega, e2.symm⟩]; omega
      · rw [if_neg e2, if_neg (fun h => e2 h.2.symm)]; omega
  obtain ⟨k1, k2, k3, k4, k5, k6, k7⟩ := g3.shared c2 g4
  have eo : A.over i tl x = ((A.made i tl x).gone il).gone ir := by unfold Ar.over; rw [ex.1, ex.2]
  have hheld : mns (mns (more (pls (pls held il) ir) i) il) ir = pls held i := by
    funext j
    have hj1 := mns_at (mns (more (pls (pls held il) ir) i) il) ir j
    have hj2 := mns_at (more (pls (pls held il) ir) i) il j
    rw [hj1, hj2, more_pls (by omega), pls_at, pls_at, pls_at, pls_at]
    omega
  have hkm := Ar.Kept.made (i := i) (t := tl) x h hf
  rw [eo]
  refine ⟨hheld ▸ k3, k4, (hkm.trans g5).trans k5, ?_, ?_, by omega, g1, g2, k1, k2⟩
  · rw [k6, g6]; rfl
  · have hon : (A.made i tl x).σ.on i = true := take_same A.σ i tl
    rw [k5.nd i (g5.on i hon), g5.nd i hon]
    show (if i = i then x else _) = x
    rw [if_pos rfl]
theorem Planted.node {A A1 A2 : Ar} {held : Nat → Nat} {l1 l2 : List En} {e : En} {il ir i : Nat} {tl tr : Tr} {fr : List Nat} {x : Nd} (h1 : Planted A held l1 A1 il tl) (h2 : Planted A1 (pls held il) l2 A2 ir tr) (hf : A2.σ.free = i :: fr)
    (hx : x = A2.node e.key e.val il ir) (hb : Proofs.Ytkhfofpbmnapjaa.bal (l1.length : Int) (l2.length : Int) = true) (hs : (l1.length + l2.length + 1 : Int) ≤ 2147483647) : Planted A held (l1 ++ e :: l2) (A2.over i fr x) i (.node i tl tr) ∧ x.size ≤ 2147483647 := by
  have hsl := h1.sub.kept h2.kept
  have hszl : A2.sz il = (l1.length : Int) := by rw [hsl.size h2.agg, h1.size]
  have hszr := h2.sz
  have hsz : x.size ≤ 2147483647 := by
    rw [hx]
    show 1 + A2.sz il + A2.sz ir ≤ _
    rw [hszl, hszr]; omega
  obtain ⟨o1, o2, o3, o4, o5, o6, _⟩ := over_ok hx h2.inv h2.agg hf hsl.idx h2.sub.idx hsz
  have oi : (A2.over i fr x).σ.on i = true := by rw [o4]; exact take_same A2.σ i fr
  have ex : x.left = il ∧ x.right = ir ∧ x.key = e.key ∧ x.val = e.val := by rw [hx]; exact ⟨rfl, rfl, rfl, rfl⟩
  refine ⟨⟨(h1.kept.trans h2.kept).trans o3, o1, o2, ?_, ?_, ?_, ?_⟩, hsz⟩
  · exact .node i tl tr o6 oi (by rw [o5, ex.1]; exact hsl.kept o3) (by rw [o5, ex.2.1]; exact h2.sub.kept o3)
  · rw [Tr.ents_node, o5, Tr.ents_kept o3 hsl, Tr.ents_kept o3 h2.sub, Tr.ents_kept h2.kept h1.sub, h1.ents, h2.ents, ex.2.2.1, ex.2.2.2]
  · unfold Tr.bal
    rw [h1.size, h2.size, hb, h1.bal, h2.bal]; rfl
  · have f1 := h1.free
    have f2 := h2.free
    have f3 : (A2.over i fr x).σ.free = fr := by rw [o4]; rfl
    rw [f3]
    rw [hf] at f2
    simp only [List.length_append, List.length_cons] at f2 ⊢
    omega
end Go.Proofs.Ytkhfofpbmnapjaa
set_option linter.unusedVariables false
namespace Go.Proofs.Ytkhfofpbmnapjaa
def Ar.Wf (A : Ar) : Prop := ∀ i, A.σ.on i = true → i64R (A.nd i).key ∧ i64R (A.nd i).val
theorem Ar.wf_init (n : Nat) : (Ar.init n).Wf := fun i hi => by cases hi
theorem Ar.Wf.made {A : Ar} {i : Nat} {t : List Nat} {x : Nd} (h : A.Wf) (hx : i64R x.key ∧ i64R x.val) : (A.made i t x).Wf := fun j hj => by
  by_cases e : j = i
  · have e1 : (A.made i t x).nd j = x := if_pos e
    rw [e1]; exact hx
  · have e1 : (A.made i t x).nd j = A.nd j := if_neg e
    rw [e1]; exact h j (take_is hj e)
theorem run_on : ∀ (f : Nat) (A : Ar) (s : List Nat) (j : Nat), (Ar.run f A s).1.σ.on j = true → A.σ.on j = true ∧ (Ar.run f A s).1.nd j = A.nd j
  | 0, A, s, j, h => ⟨h, rfl⟩
  | f + 1, A, [], j, h => ⟨h, rfl⟩
  | f + 1, A, i :: t, j, h => by
    unfold Ar.run at h ⊢
    by_cases h0 : i = 0
    · rw [if_pos h0] at h ⊢; exact run_on f A t j h
    · rw [if_neg h0] at h ⊢
      by_cases h1 : A.cnt i = 1
      · rw [if_pos h1] at h ⊢
        obtain ⟨h2, h3⟩ := run_on f (A.drop i) _ j h
        obtain ⟨h4, h5⟩ := put_is h2
        exact ⟨h5, h3.trans (if_neg h4)⟩
      · rw [if_neg h1] at h ⊢
        exact run_on f (A.dec i) t j h
theorem Ar.Wf.gone {A : Ar} (h : A.Wf) (i : Nat) : (A.gone i).Wf := fun j hj => by
  obtain ⟨h1, h2⟩ := run_on A.fuel A [i] j hj
  have e : (A.gone i).nd j = A.nd j := h2
  rw [e]; exact h j h1
theorem Ar.Wf.ret {A : Ar} (h : A.Wf) (i : Nat) : (A.ret i).Wf := by
  unfold Ar.ret
  split
  · exact h
  · exact h
/-- the slots of a tree in order are all different -/
theorem up_nodup {A : Ar} {t : Tr} (hu : Up (t.ents A.nd)) : t.idx.Nodup := by
  unfold Up Tr.ents at hu
  rw [List.pairwise_map] at hu
  exact hu.imp fun {a b} h e => by subst e; exact Int.lt_irrefl _ h
/-- what a new arena holds is the tree that was planted -/
theorem Planted.all {m : Nat} {A : Ar} {l : List En} {i : Nat} {t : Tr} (h : Planted (Ar.init m) (fun _ => 0) l A i t) (hu : Up l) {j : Nat} (hj : A.σ.on j = true) : j ∈ t.idx := by
  have hn : t.idx.Nodup := up_nodup (A := A) (by rw [h.ents]; exact hu)
  have hlen : t.idx.length = l.length := by rw [Tr.idx_len, h.size]
  have hfr := h.free
  have hcap : A.σ.cap = m := h.kept.cap
  have h0 : (Ar.init m).σ.free.length = m := by show (List.range' 1 m).length = m; simp
  rw [h0] at hfr
  refine Classical.byContradiction fun hni => ?_
  have hle := St.nodup_le A.σ.cap ((j :: t.idx) ++ A.σ.free) (by
    rw [List.nodup_append]
    refine ⟨List.nodup_cons.2 ⟨hni, hn⟩, h.inv.ok.nodup, fun x hx y hy hxy => ?_⟩
    subst hxy
    have h1 := (h.inv.ok.free x).1 hy
    rcases List.mem_cons.1 hx with rfl | hx
    · rw [hj] at h1; cases h1.2.2
    · have := h.sub.on x hx; rw [this] at h1; cases h1.2.2) (fun x hx => by
    rcases List.mem_append.1 hx with hx | hx
    · rcases List.mem_cons.1 hx with rfl | hx
      · exact h.inv.ok.on x hj
      · exact h.inv.ok.on x (h.sub.on x hx)
    · have := (h.inv.ok.free x).1 hx; omega)
  simp only [List.length_append, List.length_cons] at hle
  omega
theorem Planted.wf {m : Nat} {A : Ar} {l : List En} {i : Nat} {t : Tr} (h : Planted (Ar.init m) (fun _ => 0) l A i t) (hu : Up l) (hw : ∀ y ∈ l, i64R y.key ∧ i64R y.val) : A.Wf := fun j hj => by
  have h1 := h.all hu hj
  have h2 : (⟨(A.nd j).key, (A.nd j).val⟩ : En) ∈ l := by rw [← h.ents]; exact List.mem_map.2 ⟨j, h1, rfl⟩
  exact hw _ h2
end Go.Proofs.Ytkhfofpbmnapjaa
