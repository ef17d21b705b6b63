/- Of the proofs of SetopsUnion, SetopsIntersect, SetopsSubtract: NearP, UpPl0, SetPl0, SetPl, SoundP, RefNum, ArenaChain, Wf. -/
import Derived.Test.YtfihklpofmcfgaaGreatA164
import Derived.Laws.Rows
import Derived.Laws.CopyOwn
import Derived.Deep.DeepCutAuto
import Derived.RegionTactic
set_option linter.unusedVariables false
namespace Go.Proofs.YtfihklpofmcfgaaGreat
theorem up_app {A B : List En} {e : En} (h : Up (A ++ e :: B)) : Up A ∧ Up B ∧ (∀ x ∈ A, x.key < e.key) ∧ ∀ x ∈ B, e.key < x.key := by
  unfold Up at *
  rw [List.pairwise_append, List.pairwise_cons] at h
  exact ⟨h.1, h.2.1.2, fun x hx => h.2.2 x hx e (by simp), h.2.1.1⟩
theorem rankE_app (A B : List En) (k : Int) : rankE (A ++ B) k = rankE A k + rankE B k := by unfold rankE; exact List.countP_append
theorem rankE_all : ∀ {A : List En} {k : Int}, (∀ x ∈ A, x.key < k) → rankE A k = A.length
  | [], k, h => rfl
  | x :: t, k, h => by rw [rankE_cons, rankE_all (fun y hy => h y (by simp [hy])), if_pos (h x (by simp))]; rfl
/-- the rank of the next number -/
theorem rank_next {l : List En} (h : Up l) (k : Int) : rankE l (k + 1) = rankE l k + (if (getE l k).isSome then 1 else 0) := by
  cases hg : getE l k with
  | none =>
    have h1 := get_none hg
    show rankE l (k + 1) = rankE l k
    unfold rankE
    exact List.countP_congr fun e he => by
      have := h1 e he
      simp only [decide_eq_true_eq]
      omega
  | some e =>
    obtain ⟨hm, rfl⟩ := get_some hg
    obtain ⟨j, hj, hje⟩ := List.mem_iff_getElem.1 hm
    have hje' : l[j]? = some e := by rw [List.getElem?_eq_getElem hj, hje]
    rw [rank_of h hje']
    show rankE l (e.key + 1) = j + 1
    have h1 := (rank_iff (e.key + 1) h hje').1 (by omega)
    rcases Nat.lt_or_ge (j + 1) (rankE l (e.key + 1)) with h2 | h2
    · have h3 := rankE_le l (e.key + 1)
      have hb : l[j + 1]? = some l[j + 1] := List.getElem?_eq_getElem (by omega)
      have h4 := (rank_iff (e.key + 1) h hb).2 h2
      have h5 := List.pairwise_iff_getElem.1 h j (j + 1) hj (by omega) (by omega)
      rw [hje] at h5
      omega
    · omega
theorem floor_below {l : List En} (h : Up l) (k : Int) : floorE l k = belowE l (k + 1) := by
  unfold floorE belowE
  rw [rank_next h k]
  cases hg : (getE l k).isSome with
  | true => rw [if_pos rfl, if_pos rfl]; congr 1; omega
  | false => rfl
theorem below_node {A B : List En} {e : En} (h : Up (A ++ e :: B)) (k : Int) : belowE (A ++ e :: B) k = if e.key < k then (belowE B k).or (some e) else belowE A k := by
  obtain ⟨h1, h2, h3, h4⟩ := up_app h
  unfold belowE
  rw [rankE_app, rankE_cons, selE_pred]
  by_cases hk : e.key < k
  · rw [if_pos hk, rankE_all (A := A) (fun x hx => by have := h3 x hx; omega), if_neg (by omega), if_pos hk, selE_pred]
    by_cases h0 : rankE B k = 0
    · rw [if_pos h0, h0, show A.length + (0 + 1) - 1 = A.length by omega]
      rw [List.getElem?_append_right (Nat.le_refl _), Nat.sub_self]
      rfl
    · rw [if_neg h0, show A.length + (rankE B k + 1) - 1 = A.length + rankE B k by omega, List.getElem?_append_right (by omega), show A.length + rankE B k - A.length = (rankE B k - 1) + 1 by omega, List.getElem?_cons_succ]
      have := rankE_le B k
      rw [List.getElem?_eq_getElem (by omega)]
      rfl
  · rw [if_neg hk, if_neg hk, rankE_zero (t := B) (fun y hy => by have := h4 y hy; omega), selE_pred]
    simp only [Nat.add_zero]
    by_cases h0 : rankE A k = 0
    · rw [if_pos h0, if_pos h0]
    · have := rankE_le A k
      rw [if_neg h0, if_neg h0, List.getElem?_append_left (by omega)]
theorem ceil_node {A B : List En} {e : En} (h : Up (A ++ e :: B)) (k : Int) : ceilE (A ++ e :: B) k = if e.key < k then ceilE B k else (ceilE A k).or (some e) := by
  obtain ⟨h1, h2, h3, h4⟩ := up_app h
  unfold ceilE
  rw [rankE_app, rankE_cons, selE_nat, selE_nat, selE_nat]
  by_cases hk : e.key < k
  · rw [if_pos hk, if_pos hk, rankE_all (A := A) (fun x hx => by have := h3 x hx; omega), List.getElem?_append_right (by omega), show A.length + (rankE B k + 1) - A.length = rankE B k + 1 by omega, List.getElem?_cons_succ]
  · rw [if_neg hk, if_neg hk, rankE_zero (t := B) (fun y hy => by have := h4 y hy; omega)]
    simp only [Nat.add_zero]
    have := rankE_le A k
    rcases Nat.lt_or_ge (rankE A k) A.length with h0 | h0
    · rw [List.getElem?_append_left h0, List.getElem?_eq_getElem h0]; rfl
    · rw [List.getElem?_append_right h0, show rankE A k - A.length = 0 by omega, List.getElem?_eq_none h0]; rfl
theorem getE_app (A B : List En) (k : Int) : getE (A ++ B) k = (getE A k).or (getE B k) := by unfold getE; exact List.find?_append
theorem getE_none {l : List En} {k : Int} (h : ∀ e ∈ l, e.key ≠ k) : getE l k = none := by
  unfold getE
  exact List.find?_eq_none.2 fun e he => by simpa using h e he
theorem get_node {A B : List En} {e : En} (h : Up (A ++ e :: B)) (k : Int) : getE (A ++ e :: B) k = if k = e.key then some e else if k < e.key then getE A k else getE B k := by
  obtain ⟨h1, h2, h3, h4⟩ := up_app h
  rw [getE_app]
  have hc : getE (e :: B) k = if e.key = k then some e else getE B k := getE_step (l := e :: B) (j := 0) rfl k
  rw [hc]
  by_cases hk : k = e.key
  · rw [if_pos hk, if_pos hk.symm, getE_none (fun x hx => by have := h3 x hx; omega)]; rfl
  · rw [if_neg hk, if_neg (fun e => hk e.symm)]
    by_cases hl : k < e.key
    · rw [if_pos hl, getE_none (l := B) (fun x hx => by have := h4 x hx; omega)]
      cases getE A k <;> rfl
    · rw [if_neg hl, getE_none (l := A) (fun x hx => by have := h3 x hx; omega)]; rfl
end Go.Proofs.YtfihklpofmcfgaaGreat
set_option linter.unusedSimpArgs false
namespace Go.Proofs.YtfihklpofmcfgaaGreat
theorem getE_found0 {l : List En} (hu : Up l) {e : En} (hm : e ∈ l) : getE l e.key = some e := by
  cases hg : getE l e.key with
  | none =>
    exfalso
    unfold getE at hg
    have := List.find?_eq_none.1 hg e hm
    simp at this
  | some e' =>
    unfold getE at hg
    have h1 := List.mem_of_find?_eq_some hg
    have h2 : e'.key = e.key := by simpa using List.find?_some hg
    obtain ⟨i, hi, rfl⟩ := List.mem_iff_getElem.1 hm
    obtain ⟨j, hj, rfl⟩ := List.mem_iff_getElem.1 h1
    rcases Nat.lt_trichotomy i j with h | h | h
    · have := List.pairwise_iff_getElem.1 hu i j hi hj h; omega
    · subst h; rfl
    · have := List.pairwise_iff_getElem.1 hu j i hj hi h; omega
theorem out_up0 {l : List En} (h : Up l) (lo hi : Int) : Up (outE l lo hi) := List.Pairwise.filter _ h
theorem up_ext : ∀ {l m : List En}, Up l → Up m → (∀ y, y ∈ l ↔ y ∈ m) → l = m
  | [], [], _, _, _ => rfl
  | [], y :: s, _, _, h => by have := (h y).2 (by simp); cases this
  | x :: t, [], _, _, h => by have := (h x).1 (by simp); cases this
  | x :: t, y :: s, hl, hm, h => by
    have hl' := List.pairwise_cons.1 hl
    have hm' := List.pairwise_cons.1 hm
    have hxy : x = y := by
      rcases List.mem_cons.1 ((h x).1 (by simp)) with h1 | h1
      · exact h1
      · rcases List.mem_cons.1 ((h y).2 (by simp)) with h2 | h2
        · exact h2.symm
        · have := hl'.1 y h2
          have := hm'.1 x h1
          omega
    subst hxy
    congr 1
    refine up_ext hl'.2 hm'.2 fun z => ⟨fun hz => ?_, fun hz => ?_⟩
    · rcases List.mem_cons.1 ((h z).1 (by simp [hz])) with h1 | h1
      · have := hl'.1 z hz; rw [h1] at this; omega
      · exact h1
    · rcases List.mem_cons.1 ((h z).2 (by simp [hz])) with h1 | h1
      · have := hm'.1 z hz; rw [h1] at this; omega
      · exact h1
theorem insF_mem_iff (e y : En) : ∀ (t : List En) (d : Bool), y ∈ insF e t d ↔ (d = false ∧ y = e) ∨ (y ∈ t ∧ y.key ≠ e.key)
  | [], d => by unfold insF; cases d <;> simp
  | x :: t, d => by
    unfold insF
    rw [List.mem_append, List.mem_append, insF_mem_iff e y t]
    have h1 : (y ∈ if x.key ≠ e.key then [x] else []) ↔ y = x ∧ x.key ≠ e.key := by
      by_cases h : x.key = e.key <;> simp [h]
    rw [h1, List.mem_cons]
    cases d with
    | true =>
      simp only [Bool.not_true, Bool.false_and, Bool.true_or, Bool.false_eq_true, if_false, List.not_mem_nil, false_or]
      constructor
      · rintro (⟨rfl, h⟩ | h)
        · exact .inr ⟨.inl rfl, h⟩
        · rcases h with ⟨h, _⟩ | ⟨h, h'⟩
          · cases h
          · exact .inr ⟨.inr h, h'⟩
      · rintro (⟨h, _⟩ | ⟨rfl | h, h'⟩)
        · cases h
        · exact .inl ⟨rfl, h'⟩
        · exact .inr (.inr ⟨h, h'⟩)
    | false =>
      by_cases hk : e.key ≤ x.key
      · simp only [Bool.not_false, Bool.true_and, decide_eq_true_eq, hk, if_true, decide_true, Bool.or_true, List.mem_singleton]
        constructor
        · rintro ((rfl | ⟨rfl, h⟩) | h)
          · exact .inl ⟨trivial, rfl⟩
          · exact .inr ⟨.inl rfl, h⟩
          · rcases h with ⟨h, _⟩ | ⟨h, h'⟩
            · cases h
            · exact .inr ⟨.inr h, h'⟩
        · rintro (⟨_, rfl⟩ | ⟨rfl | h, h'⟩)
          · exact .inl (.inl rfl)
          · exact .inl (.inr ⟨rfl, h'⟩)
          · exact .inr (.inr ⟨h, h'⟩)
      · simp only [Bool.not_false, Bool.true_and, hk, decide_false, Bool.false_eq_true, if_false, List.not_mem_nil, false_or, Bool.or_false]
        constructor
        · rintro (⟨rfl, h⟩ | h)
          · exact .inr ⟨.inl rfl, h⟩
          · rcases h with ⟨_, rfl⟩ | ⟨h, h'⟩
            · exact .inl ⟨trivial, rfl⟩
            · exact .inr ⟨.inr h, h'⟩
        · rintro (⟨_, rfl⟩ | ⟨rfl | h, h'⟩)
          · exact .inr (.inl ⟨trivial, rfl⟩)
          · exact .inl ⟨rfl, h'⟩
          · exact .inr (.inr ⟨h, h'⟩)
theorem ins_mem (l : List En) (e y : En) : y ∈ insE l e ↔ y = e ∨ (y ∈ l ∧ y.key ≠ e.key) := by
  unfold insE
  rw [insF_mem_iff]
  simp
theorem out_mem (l : List En) (k : Int) (y : En) : y ∈ outE l k k ↔ y ∈ l ∧ y.key ≠ k := by
  unfold outE
  rw [List.mem_filter]
  simp only [decide_eq_true_eq]
  constructor <;> (rintro ⟨h, h'⟩; exact ⟨h, by omega⟩)
theorem getE_iff {l : List En} (hu : Up l) (k : Int) (e : En) : getE l k = some e ↔ e ∈ l ∧ e.key = k := by
  constructor
  · intro h
    unfold getE at h
    exact ⟨List.mem_of_find?_eq_some h, by simpa using List.find?_some h⟩
  · rintro ⟨h, rfl⟩
    exact getE_found0 hu h
theorem ins_in {l : List En} (hu : Up l) {e : En} (h : getE l e.key = some e) : insE l e = l := by
  refine up_ext (insE_up e hu) hu fun y => ?_
  have he := ((getE_iff hu e.key e).1 h).1
  rw [ins_mem]
  constructor
  · rintro (rfl | ⟨h1, _⟩)
    · exact he
    · exact h1
  · intro hy
    by_cases hk : y.key = e.key
    · have := getE_found0 hu hy
      rw [hk, h] at this
      exact .inl (Option.some.inj this).symm
    · exact .inr ⟨hy, hk⟩
/-- the value of a key that is in both lists -/
def chooseV (p v w : Int) : Int := if p = 1 then v else if p = 2 then w else if p = 3 then IntKind.i64.wrap (v + w) else if p = 4 then min v w else max v w
theorem chooseV_in {p v w : Int} (hv : i64R v) (hw : i64R w) : i64R (chooseV p v w) := by
  unfold chooseV
  split
  · exact hv
  · split
    · exact hw
    · split
      · unfold i64R; rw [IntKind.wrap_i64]; omega
      · split
        · unfold i64R at *; omega
        · unfold i64R at *; omega
def bothE (m : List En) (p : Int) (x : En) : Option En := (getE m x.key).map fun y => ⟨x.key, chooseV p x.val y.val⟩
def intE (l m : List En) (p : Int) : List En := l.filterMap (bothE m p)
theorem pairwise_fm {R : En → En → Prop} {f : En → Option En} (hf : ∀ x y, f x = some y → y.key = x.key) : ∀ {l : List En}, Up l → Up (l.filterMap f)
  | [], _ => List.Pairwise.nil
  | x :: t, hu => by
    have hu' := List.pairwise_cons.1 hu
    have ih := pairwise_fm (R := R) hf hu'.2
    cases hx : f x with
    | none => rw [List.filterMap_cons_none hx]; exact ih
    | some y =>
      rw [List.filterMap_cons_some hx]
      refine List.pairwise_cons.2 ⟨fun z hz => ?_, ih⟩
      obtain ⟨u, hu2, hz2⟩ := List.mem_filterMap.1 hz
      rw [hf x y hx, hf u z hz2]
      exact hu'.1 u hu2
theorem intE_up {l : List En} (hu : Up l) (m : List En) (p : Int) : Up (intE l m p) := pairwise_fm (R := fun _ _ => True) (fun x y h => by
  unfold bothE at h
  cases hg : getE m x.key with
  | none => rw [hg] at h; cases h
  | some z => rw [hg] at h; cases h; rfl) hu
/-- an entry of the second list as it stands in the union -/
def mixE (l : List En) (p : Int) (e : En) : En := ⟨e.key, (getE l e.key).elim e.val fun x => chooseV p x.val e.val⟩
def unionE (l m : List En) (p : Int) : List En := m.foldl (fun out e => insE out (mixE l p e)) l
def subE (l m : List En) : List En := l.filter fun x => (getE m x.key).isNone
def excE (l m : List En) : List En := unionE (subE l m) (subE m l) 1
theorem unionE_take {l m : List En} {p : Int} {j : Nat} {e : En} (h : m[j]? = some e) : unionE l (m.take (j + 1)) p = insE (unionE l (m.take j) p) (mixE l p e) := by
  obtain ⟨hj, rfl⟩ := List.getElem?_eq_some_iff.1 h
  unfold unionE
  rw [List.take_succ_eq_append_getElem hj, List.foldl_append]
  rfl
theorem unionE_up {l : List En} (hl : Up l) (p : Int) : ∀ (m out : List En), Up out → Up (m.foldl (fun out e => insE out (mixE l p e)) out)
  | [], out, h => h
  | e :: t, out, h => unionE_up hl p t _ (insE_up _ h)
theorem foldIns_len (l : List En) (p : Int) : ∀ (m out : List En), (m.foldl (fun out e => insE out (mixE l p e)) out).length ≤ out.length + m.length
  | [], out => by simp
  | e :: t, out => by
    have h1 := foldIns_len l p t (insE out (mixE l p e))
    have h2 := insE_len out (mixE l p e)
    rw [List.foldl_cons, List.length_cons]
    omega
theorem unionE_len (l m : List En) (p : Int) : (unionE l m p).length ≤ l.length + m.length := foldIns_len l p m l
theorem mixE_wf {l : List En} {p : Int} {e : En} (hl : ∀ y ∈ l, i64R y.key ∧ i64R y.val) (he : i64R e.key ∧ i64R e.val) : i64R (mixE l p e).key ∧ i64R (mixE l p e).val := by
  refine ⟨he.1, ?_⟩
  unfold mixE
  cases hg : getE l e.key with
  | none => exact he.2
  | some x => exact chooseV_in (hl x (List.mem_of_find?_eq_some hg)).2 he.2
theorem foldIns_wf {l : List En} {p : Int} (hl : ∀ y ∈ l, i64R y.key ∧ i64R y.val) : ∀ (m out : List En), (∀ y ∈ m, i64R y.key ∧ i64R y.val) → (∀ y ∈ out, i64R y.key ∧ i64R y.val) → ∀ y ∈ m.foldl (fun out e => insE out (mixE l p e)) out, i64R y.key ∧ i64R y.val
  | [], out, _, h => h
  | e :: t, out, hm, h => foldIns_wf hl t _ (fun y hy => hm y (by simp [hy])) fun y hy => (insE_mem hy).elim (h y) fun e2 => by rw [e2]; exact mixE_wf hl (hm e (by simp))
theorem unionE_wf {l m : List En} {p : Int} (hl : ∀ y ∈ l, i64R y.key ∧ i64R y.val) (hm : ∀ y ∈ m, i64R y.key ∧ i64R y.val) : ∀ y ∈ unionE l m p, i64R y.key ∧ i64R y.val := foldIns_wf hl m l hm hl
theorem subE_up {l : List En} (hu : Up l) (m : List En) : Up (subE l m) := List.Pairwise.filter _ hu
theorem excE_up {l m : List En} (hl : Up l) : Up (excE l m) := unionE_up (subE_up hl m) 1 _ _ (subE_up hl m)
structure Fd where
  kind : Int
  slot : Nat
  want : Int
  have_ : Int
def fdV (f : Fd) : List Value := [.int .i64 f.kind, .int .u32 (f.slot : Int), .int .i64 f.want, .int .i64 f.have_]
def fdsV (l : List Fd) : List Value := l.flatMap fdV
theorem fdsV_snoc (l : List Fd) (f : Fd) : fdsV (l ++ [f]) = fdsV l ++ fdV f := by simp [fdsV]
def opt (b : Bool) (f : Fd) : List Fd := if b = true then [f] else []
theorem opt_le (b : Bool) (f : Fd) : (opt b f).length ≤ 1 := by unfold opt; split <;> simp
section
variable (S : Nat → Sl) (n : Nat) (fr rs : List Nat) (R : Nat → Bool)
def wantFree (i : Nat) : Int := if (S i).on = true then 0 else 1
def F1 (i : Nat) : List Fd := opt (((fr.count (i + 1) : Nat) : Int) != wantFree S i) ⟨1, i + 1, wantFree S i, ((fr.count (i + 1) : Nat) : Int)⟩
def kidF (i t : Nat) : List Fd := opt (!decide (Al S n (kd (S i) t)) && kd (S i) t != 0) ⟨2, i + 1, 0, ((kd (S i) t : Nat) : Int)⟩
/-- the size by the first t children -/
def szF (i : Nat) : Nat → Int
  | 0 => 1
  | t + 1 => if Al S n (kd (S i) t) then IntKind.i64.wrap (szF i t + (S (kd (S i) t - 1)).nd.size) else szF i t
def kidsF (i t : Nat) : List Fd := (List.range t).flatMap (kidF S n i)
def F3 (i : Nat) : List Fd := opt (szF S n i 2 != (S i).nd.size) ⟨3, i + 1, szF S n i 2, (S i).nd.size⟩
def wantCount (i : Nat) : Int := if (S i).on = true then ((eg S n (i + 1) + rs.count (i + 1) : Nat) : Int) else 0
def F4 (i : Nat) : List Fd := opt (wantCount S n rs i != (S i).cnt) ⟨4, i + 1, wantCount S n rs i, (S i).cnt⟩
def F5 (i : Nat) : List Fd := opt ((S i).on && !R i) ⟨5, i + 1, 0, 0⟩
/-- the findings of slot i + 1 -/
def chk1 (i : Nat) : List Fd := F1 S fr i ++ ((if (S i).on = true then kidsF S n i 2 ++ F3 S n i else []) ++ (F4 S n rs i ++ F5 S R i))
def chks (k : Nat) : List Fd := (List.range k).flatMap (chk1 S n fr rs R)
def rngF (x : Nat) : List Fd := opt (decide (x < 1) || decide (n < x)) ⟨6, x, 0, 0⟩
def rootF (x : Nat) : List Fd := opt (x != 0 && !decide (Al S n x)) ⟨7, x, 0, 0⟩
def chk : List Fd := chks S n fr rs R n ++ (fr.flatMap (rngF n) ++ rs.flatMap (rootF S n))
theorem kidsF_succ (i t : Nat) : kidsF S n i (t + 1) = kidsF S n i t ++ kidF S n i t := by simp [kidsF, List.range_succ]
theorem chks_succ (k : Nat) : chks S n fr rs R (k + 1) = chks S n fr rs R k ++ chk1 S n fr rs R k := by simp [chks, List.range_succ]
theorem chk1_le (i : Nat) : (chk1 S n fr rs R i).length ≤ 6 := by
  unfold chk1
  rw [List.length_append, List.length_append, List.length_append]
  have h1 : (F1 S fr i).length ≤ 1 := opt_le _ _
  have h2 : (F4 S n rs i).length ≤ 1 := opt_le _ _
  have h3 : (F5 S R i).length ≤ 1 := opt_le _ _
  have h4 : (if (S i).on = true then kidsF S n i 2 ++ F3 S n i else []).length ≤ 3 := by
    split
    · rw [List.length_append]
      have h5 : (F3 S n i).length ≤ 1 := opt_le _ _
      have h6 : (kidsF S n i 2).length ≤ 2 := by
        rw [kidsF_succ, kidsF_succ]
        simp only [List.length_append]
        have h7 : (kidF S n i 0).length ≤ 1 := opt_le _ _
        have h8 : (kidF S n i 1).length ≤ 1 := opt_le _ _
        have h9 : (kidsF S n i 0).length = 0 := rfl
        omega
      omega
    · simp
  omega
theorem kidsF_le (i t : Nat) : (kidsF S n i t).length ≤ t := by
  induction t with
  | zero => simp [kidsF]
  | succ t ih => rw [kidsF_succ, List.length_append]; have : (kidF S n i t).length ≤ 1 := opt_le _ _; omega
theorem mid_le (i : Nat) : (if (S i).on = true then kidsF S n i 2 ++ F3 S n i else []).length ≤ 3 := by
  split
  · rw [List.length_append]
    have h5 : (F3 S n i).length ≤ 1 := opt_le _ _
    have h6 : (kidsF S n i 2).length ≤ 2 := by
      rw [kidsF_succ, kidsF_succ]
      simp only [List.length_append]
      have h7 : (kidF S n i 0).length ≤ 1 := opt_le _ _
      have h8 : (kidF S n i 1).length ≤ 1 := opt_le _ _
      have h9 : (kidsF S n i 0).length = 0 := rfl
      omega
    omega
  · simp
theorem chks_le (k : Nat) : (chks S n fr rs R k).length ≤ 6 * k := by
  induction k with
  | zero => simp [chks]
  | succ k ih => rw [chks_succ, List.length_append]; have := chk1_le S n fr rs R k; omega
theorem flat_le {l : List Nat} {f : Nat → List Fd} (h : ∀ x, (f x).length ≤ 1) : (l.flatMap f).length ≤ l.length := by
  induction l with
  | nil => simp
  | cons a t ih => rw [List.flatMap_cons, List.length_append, List.length_cons]; have := h a; omega
theorem flat_take {l : List Nat} {f : Nat → List Fd} {k : Nat} (h : k < l.length) : (l.take (k + 1)).flatMap f = (l.take k).flatMap f ++ f (l.getD k 0) := by
  rw [List.take_succ_eq_append_getElem h, List.flatMap_append, List.getD_eq_getElem?_getD, List.getElem?_eq_getElem h]
  simp
end
def Ar.sl (A : Ar) (i : Nat) : Sl := ⟨A.σ.on (i + 1), A.cnt (i + 1), A.σ.gen (i + 1), A.nd (i + 1)⟩
theorem al_on {A : Ar} (h : A.σ.Ok) (x : Nat) : Al A.sl A.σ.cap x ↔ A.σ.on x = true := by
  unfold Al Ar.sl
  constructor
  · rintro ⟨h1, h2, h3⟩
    rwa [show x - 1 + 1 = x by omega] at h3
  · intro h1
    have h2 := h.on x h1
    exact ⟨by omega, by omega, by rwa [show x - 1 + 1 = x by omega]⟩
theorem reach_rch {A : Ar} {l : List Nat} (h : A.Inv [] (hof l)) (k : Nat) (hr : A.Reach (hof l) k) : A.σ.on k = true → Rch A.sl A.σ.cap l k := by
  induction hr with
  | root i hi =>
    intro hk
    refine .root i ?_ ((al_on h.ok i).2 hk)
    unfold hof at hi
    split at hi
    · omega
    · exact List.count_pos_iff.1 hi
  | left k hk _ ih =>
    intro hk2
    have h1 := ih hk
    have h2 := h.ok.on k hk
    have h3 : kd (A.sl (k - 1)) 0 = (A.nd k).left := by unfold kd Ar.sl; rw [if_pos rfl, show k - 1 + 1 = k by omega]
    rw [← h3]
    exact .kid k 0 h1 (by decide) ((al_on h.ok _).2 (by rw [h3]; exact hk2))
  | right k hk _ ih =>
    intro hk2
    have h1 := ih hk
    have h2 := h.ok.on k hk
    have h3 : kd (A.sl (k - 1)) 1 = (A.nd k).right := by unfold kd Ar.sl; rw [if_neg (by decide), show k - 1 + 1 = k by omega]
    rw [← h3]
    exact .kid k 1 h1 (by decide) ((al_on h.ok _).2 (by rw [h3]; exact hk2))
theorem nodup_count {l : List Nat} (h : l.Nodup) (x : Nat) : l.count x = if x ∈ l then 1 else 0 := by
  by_cases e : x ∈ l
  · rw [if_pos e, List.nodup_iff_count.1 h |> fun h2 => Nat.le_antisymm (h2 x) (List.count_pos_iff.2 e)]
  · rw [if_neg e]; exact List.count_eq_zero.2 e
theorem eg_refs (A : Ar) (x : Nat) : eg A.sl A.σ.cap x = A.refs x := by
  unfold eg Ar.refs
  rw [List.range'_eq_map_range, List.map_map]
  congr 1
  refine List.map_congr_left fun k _ => ?_
  show ph 2 (A.sl k) x = A.edge (1 + k) x
  unfold ph Ar.edge Ar.sl
  rw [Nat.add_comm 1 k]
  by_cases h : A.σ.on (k + 1) = true
  · rw [if_pos h, if_pos h]; simp [List.range_succ, kd]
  · rw [if_neg h, if_neg h]
theorem wrap_fit {n : Int} (h : -9223372036854775808 ≤ n ∧ n ≤ 9223372036854775807) : IntKind.i64.wrap n = n := by rw [IntKind.wrap_i64]; omega
theorem flat_nil {α : Type} {l : List Nat} {f : Nat → List α} (h : ∀ x ∈ l, f x = []) : l.flatMap f = [] := by
  induction l with
  | nil => rfl
  | cons a t ih => rw [List.flatMap_cons, h a (by simp), ih fun x hx => h x (by simp [hx])]; rfl
theorem chk_sound {A : Ar} {l : List Nat} (h : A.Inv [] (hof l)) (ha : A.Agg) (hl : ∀ x ∈ l, x = 0 ∨ A.σ.on x = true) {R : Nat → Bool} (hR : ∀ j, j < A.σ.cap → (R j = true ↔ Rch A.sl A.σ.cap l (j + 1))) : chk A.sl A.σ.cap A.σ.free l R = [] := by
  unfold chk
  have h1 : A.σ.free.flatMap (rngF A.σ.cap) = [] := flat_nil fun x hx => by
    have := (h.ok.free x).1 hx
    unfold rngF opt
    rw [if_neg (by simp; omega)]
  have h2 : l.flatMap (rootF A.sl A.σ.cap) = [] := flat_nil fun x hx => by
    unfold rootF opt
    rw [if_neg]
    simp
    intro hx0
    rcases hl x hx with h3 | h3
    · exact absurd h3 hx0
    · exact (al_on h.ok x).2 h3
  rw [h1, h2, List.append_nil, List.append_nil]
  unfold chks
  refine flat_nil fun i hi => ?_
  rw [List.mem_range] at hi
  have hsl : (A.sl i).on = A.σ.on (i + 1) := rfl
  have hsn : (A.sl i).nd = A.nd (i + 1) := rfl
  have hsc : (A.sl i).cnt = A.cnt (i + 1) := rfl
  have hF1 : F1 A.sl A.σ.free i = [] := by
    unfold F1 opt
    rw [if_neg]
    simp
    rw [nodup_count h.ok.nodup]
    unfold wantFree
    rw [hsl]
    have hfr := h.ok.free (i + 1)
    by_cases ho : A.σ.on (i + 1) = true
    · rw [if_pos ho, if_neg (fun e => by have := (hfr.1 e).2.2; rw [ho] at this; cases this)]; rfl
    · rw [if_neg ho, if_pos (hfr.2 ⟨by omega, by omega, by simpa using ho⟩)]; rfl
  have hkid : A.σ.on (i + 1) = true → ∀ t, t < 2 → kd (A.sl i) t = 0 ∨ Al A.sl A.σ.cap (kd (A.sl i) t) := fun ho t ht => by
    have hc := h.child (i + 1) ho
    unfold kd
    rw [hsn]
    split
    · rcases hc.1 with h3 | h3
      · exact .inl h3
      · exact .inr ((al_on h.ok _).2 h3)
    · rcases hc.2 with h3 | h3
      · exact .inl h3
      · exact .inr ((al_on h.ok _).2 h3)
  have hF2 : A.σ.on (i + 1) = true → kidsF A.sl A.σ.cap i 2 = [] := fun ho => by
    unfold kidsF
    refine flat_nil fun t ht => ?_
    rw [List.mem_range] at ht
    unfold kidF opt
    rw [if_neg]
    simp
    intro h3
    rcases hkid ho t ht with h4 | h4
    · exact h4
    · exact absurd h4 h3
  have hF3 : A.σ.on (i + 1) = true → F3 A.sl A.σ.cap i = [] := fun ho => by
    have hn := congrArg Nd.size (ha.node (i + 1) ho)
    have hn2 : (A.node (A.nd (i + 1)).key (A.nd (i + 1)).val (A.nd (i + 1)).left (A.nd (i + 1)).right).size = 1 + A.sz (A.nd (i + 1)).left + A.sz (A.nd (i + 1)).right := rfl
    rw [hn2] at hn
    have hst : ∀ t, t < 2 → ∀ s : Int, (if Al A.sl A.σ.cap (kd (A.sl i) t) then IntKind.i64.wrap (s + (A.sl (kd (A.sl i) t - 1)).nd.size) else s) = IntKind.i64.wrap (s + A.sz (kd (A.sl i) t)) ∨ A.sz (kd (A.sl i) t) = 0 ∧ (if Al A.sl A.σ.cap (kd (A.sl i) t) then IntKind.i64.wrap (s + (A.sl (kd (A.sl i) t - 1)).nd.size) else s) = s := fun t ht s => by
      by_cases hal : Al A.sl A.σ.cap (kd (A.sl i) t)
      · rw [if_pos hal]
        have h5 := hal.1
        have h6 : (A.sl (kd (A.sl i) t - 1)).nd.size = A.sz (kd (A.sl i) t) := by
          unfold Ar.sz
          rw [if_neg (by omega)]
          show (A.nd (kd (A.sl i) t - 1 + 1)).size = _
          rw [show kd (A.sl i) t - 1 + 1 = kd (A.sl i) t by omega]
        exact .inl (by rw [h6])
      · rw [if_neg hal]
        rcases hkid ho t ht with h7 | h7
        · exact .inr ⟨by rw [h7]; rfl, rfl⟩
        · exact absurd h7 hal
    have hz : ∀ y, (y = 0 ∨ A.σ.on y = true) → 0 ≤ A.sz y ∧ A.sz y ≤ 2147483647 := fun y hy => by
      unfold Ar.sz
      split
      · exact ⟨Int.le_refl 0, by decide⟩
      · rcases hy with hy | hy
        · contradiction
        · have := ha.size y hy; omega
    have hc := h.child (i + 1) ho
    have hzl := hz _ hc.1
    have hzr := hz _ hc.2
    have k0 : kd (A.sl i) 0 = (A.nd (i + 1)).left := rfl
    have k1 : kd (A.sl i) 1 = (A.nd (i + 1)).right := rfl
    have e1 : szF A.sl A.σ.cap i 1 = 1 + A.sz (A.nd (i + 1)).left := by
      show (if Al A.sl A.σ.cap (kd (A.sl i) 0) then IntKind.i64.wrap (1 + (A.sl (kd (A.sl i) 0 - 1)).nd.size) else 1) = _
      rcases hst 0 (by decide) 1 with h8 | ⟨h8, h9⟩
      · rw [h8, k0]; exact wrap_fit (by omega)
      · rw [h9]; rw [k0] at h8; omega
    have e2 : szF A.sl A.σ.cap i 2 = 1 + A.sz (A.nd (i + 1)).left + A.sz (A.nd (i + 1)).right := by
      show (if Al A.sl A.σ.cap (kd (A.sl i) 1) then IntKind.i64.wrap (szF A.sl A.σ.cap i 1 + (A.sl (kd (A.sl i) 1 - 1)).nd.size) else szF A.sl A.σ.cap i 1) = _
      rcases hst 1 (by decide) (szF A.sl A.σ.cap i 1) with h8 | ⟨h8, h9⟩
      · rw [h8, k1, e1]; exact wrap_fit (by omega)
      · rw [h9, e1]; rw [k1] at h8; omega
    unfold F3 opt
    rw [if_neg]
    simp
    rw [e2, hsn]
    exact hn.symm
  have hF4 : F4 A.sl A.σ.cap l i = [] := by
    unfold F4 opt
    rw [if_neg]
    simp
    unfold wantCount
    rw [hsl, hsc]
    by_cases ho : A.σ.on (i + 1) = true
    · rw [if_pos ho, h.cnt (i + 1) ho, eg_refs]
      have : hof l (i + 1) = l.count (i + 1) := by unfold hof; rw [if_neg (by omega)]
      rw [this]
      simp
    · rw [if_neg ho, (h.off (i + 1) (by simpa using ho)).1]
  have hF5 : F5 A.sl R i = [] := by
    unfold F5 opt
    rw [if_neg]
    simp
    intro ho
    rw [hsl] at ho
    have hre := Ar.reach_all h ha 2147483648 (i + 1) ho (by have := (ha.size (i + 1) ho).1; omega)
    exact (hR i hi).2 (reach_rch h _ hre ho)
  unfold chk1
  rw [hF1, hF4, hF5]
  by_cases ho : A.σ.on (i + 1) = true
  · rw [hsl, if_pos ho, hF2 ho, hF3 ho]; rfl
  · rw [hsl, if_neg ho]; rfl
open Go.RowKit
set_option maxRecDepth 100000 in
theorem refBalanced_any (l r : Int) (w : World) (hl0 : -9223372036854775808 ≤ l) (hl1 : l ≤ 9223372036854775807) (hr0 : -9223372036854775808 ≤ r) (hr1 : r ≤ 9223372036854775807) :
    Calls Tryz.prog 91 #[.int .i64 l, .int .i64 r] w fun e w' => e = .returned (.bool (bal l r)) ∧ w' = w := by
  by_cases h : 0 ≤ l ∧ l ≤ 2147483647 ∧ 0 ≤ r ∧ r ≤ 2147483647
  · obtain ⟨h1, h2, h3, h4⟩ := h
    have HB : Hid (bal l r = (decide (l + 1 ≤ 3 * (r + 1)) && decide (r + 1 ≤ 3 * (l + 1)))) := by
      unfold bal
      rw [← Bool.decide_and]
      exact decide_eq_decide.2 ⟨fun h => ⟨h.2.2.2.2.1, h.2.2.2.2.2⟩, fun h => ⟨h1, h2, h3, h4, h.1, h.2⟩⟩
    have e1 : IntKind.i64.wrap (l + 1) = l + 1 := by rw [IntKind.wrap_i64]; omega
    have e2 : IntKind.i64.wrap (r + 1) = r + 1 := by rw [IntKind.wrap_i64]; omega
    have e3 : IntKind.i64.wrap (3 * (r + 1)) = 3 * (r + 1) := by rw [IntKind.wrap_i64]; omega
    have e4 : IntKind.i64.wrap (3 * (l + 1)) = 3 * (l + 1) := by rw [IntKind.wrap_i64]; omega
    have g1 : decide (l < 0) = false := decide_eq_false (by omega)
    have g2 : decide (2147483647 < l) = false := decide_eq_false (by omega)
    have g3 : decide (r < 0) = false := decide_eq_false (by omega)
    have g4 : decide (2147483647 < r) = false := decide_eq_false (by omega)
    rw [HB.out]
    clear HB hl0 hl1 hr0 hr1 h1 h2 h3 h4
    by_cases hc : l + 1 ≤ 3 * (r + 1)
    · have hc2 := decide_eq_true hc
      go_enter Tryz.func91, Tryz.ntmps91
      go_wp2
      go_ret
      exact ⟨by simp [hc], rfl⟩
    · have hc2 := decide_eq_false hc
      go_enter Tryz.func91, Tryz.ntmps91
      go_wp2
      go_ret
      exact ⟨by simp [hc], rfl⟩
  · have HB : bal l r = false := decide_eq_false fun h2 => h ⟨h2.1, h2.2.1, h2.2.2.1, h2.2.2.2.1⟩
    rw [HB]
    clear HB
    by_cases h1 : l < 0
    · have g1 := decide_eq_true h1
      clear h h1
      go_enter Tryz.func91, Tryz.ntmps91
      go_wp2
      go_ret
      exact ⟨rfl, rfl⟩
    · have g1 := decide_eq_false h1
      by_cases h2 : 2147483647 < l
      · have g2 := decide_eq_true h2
        clear h h1 h2
        go_enter Tryz.func91, Tryz.ntmps91
        go_wp2
        go_ret
        exact ⟨rfl, rfl⟩
      · have g2 := decide_eq_false h2
        by_cases h3 : r < 0
        · have g3 := decide_eq_true h3
          clear h h1 h2 h3
          go_enter Tryz.func91, Tryz.ntmps91
          go_wp2
          go_ret
          exact ⟨rfl, rfl⟩
        · have g3 := decide_eq_false h3
          have g4 : decide (2147483647 < r) = true := decide_eq_true (by omega)
          clear h h1 h2 h3
          go_enter Tryz.func91, Tryz.ntmps91
          go_wp2
          go_ret
          exact ⟨rfl, rfl⟩
theorem below_new7 (w : World) (o : Obj) : Below w.heap.size w (w.alloc o) := (Below.refl _ _).alloc (Nat.le_refl _) _
theorem below_chain7 {a b c : World} (h : Below a.heap.size a b) (h1 : Below b.heap.size b c) : Below a.heap.size a c := h.trans (h1.mono h.size)
def zero81 : Array Value := Array.replicate 81 (.int .i64 0)
/-- the weights up to height h, then zeros -/
def wtv (h : Nat) : Array Value := (Array.range 81).map fun j => .int .i64 (if j ≤ h then (wt j : Int) else 0)
theorem zero81_run : ∀ w, (zeroValue 154).run Tryz.prog w = .ok (.agg zero81) w := by
  have h : (Tryz.prog.info? 154).map (·.zero) = some (some (.agg zero81)) := by kernel_rfl
  intro w
  cases hi : Tryz.prog.info? 154 with
  | none => simp [hi] at h
  | some i =>
    have hz : i.zero = some (.agg zero81) := by simpa [hi] using h
    simp [zeroValue, typeInfo, hi, hz]
theorem wtv_size (h : Nat) : (wtv h).size = 81 := by simp [wtv]
theorem wtv_at (h j : Nat) (hj : j < 81) : (wtv h)[j]? = some (.int .i64 (if j ≤ h then (wt j : Int) else 0)) := by simp [wtv, hj]
theorem wtv_at2 (h j : Nat) : (wtv h)[j]? = if j < 81 then some (.int .i64 (if j ≤ h then (wt j : Int) else 0)) else none := by
  by_cases hj : j < 81
  · rw [if_pos hj]; exact wtv_at h j hj
  · rw [if_neg hj]; exact Array.getElem?_eq_none (by rw [wtv_size]; omega)
theorem zero81_at (j : Nat) : zero81[j]? = if j < 81 then some (.int .i64 0) else none := by
  by_cases hj : j < 81
  · rw [if_pos hj]; simp [zero81, hj]
  · rw [if_neg hj]; exact Array.getElem?_eq_none (by simp [zero81]; omega)
theorem wtv_zero : zero81.setIfInBounds 0 (.int .i64 1) = wtv 0 := by
  apply Array.ext_getElem?
  intro j
  rw [wtv_at2]
  by_cases e : 0 = j
  · subst e
    rw [Array.getElem?_setIfInBounds_self_of_lt (by simp [zero81])]
    rfl
  · rw [Array.getElem?_setIfInBounds_ne e, zero81_at]
    have h2 : ¬ j ≤ 0 := by omega
    rw [if_neg h2]
theorem wtv_step (h : Nat) (hh : h + 1 < 81) (v : Int) (hv : v = (wt (h + 1) : Int)) : (wtv h).setIfInBounds (h + 1) (.int .i64 v) = wtv (h + 1) := by
  subst hv
  apply Array.ext_getElem?
  intro j
  rw [wtv_at2]
  by_cases e : h + 1 = j
  · subst e
    rw [Array.getElem?_setIfInBounds_self_of_lt (by rw [wtv_size]; exact hh), if_pos hh, if_pos (Nat.le_refl _)]
  · rw [Array.getElem?_setIfInBounds_ne e, wtv_at2]
    by_cases e2 : j ≤ h
    · rw [if_pos e2, if_pos (show j ≤ h + 1 by omega)]
    · rw [if_neg e2, if_neg (show ¬ j ≤ h + 1 by omega)]
theorem wtv_one (h : Nat) : (wtv h).all (·.oneCell') = true := by
  rw [Array.all_eq_true]
  intro i h
  simp [wtv, Value.oneCell']
def WRel (w : World) (i : Value) (wr : World) : Prop :=
  ∃ k : Nat, k < 81 ∧ i = .int .i64 ((k : Int) + 1) ∧ wr.heap[w.heap.size]? = some (.cells zero81 154 (0, 0)) ∧ wr.heap[w.heap.size + 1]? = some (.cells (wtv k) 154 (0, 0)) ∧ Below w.heap.size w wr
theorem WRel.drew {w wr : World} {i : Value} (h : WRel w i wr) : WRel w i wr.drew := by
  obtain ⟨k, h1, h2, h3, h4, h5⟩ := h
  exact ⟨k, h1, h2, h3, h4, h5.drew⟩
set_option maxHeartbeats 1000000 in
set_option maxRecDepth 100000 in
theorem weights_any (w : World) : Calls Tryz.prog 108 #[] w fun e w' => e = .returned (.agg (wtv 80)) ∧ Below w.heap.size w w' := by
  have hz := zero81_run
  have hu : (Tryz.prog.underlying 154) = some (.array 81 3) := by kernel_rfl
  have hi : (Tryz.prog.info? 154).map (·.size) = some 81 := by kernel_rfl
  have HU := Lib.hid hu
  have HI := Lib.hid hi
  clear hu hi
  go_enter Tryz.func108, Tryz.ntmps108
  go_upto_region 2 with fail
  have hB0 : Below w.heap.size w ((w.alloc (Obj.cells zero81 154)).alloc (Obj.cells zero81 154)) := ((Below.refl _ _).alloc (Nat.le_refl _) _).alloc (by simp) _
  have h0 := heap_alloc2_old w (Obj.cells zero81 154) (Obj.cells zero81 154)
  have h1 := heap_alloc2_new w (Obj.cells zero81 154) (Obj.cells zero81 154)
  clear hz
  generalize (w.alloc (Obj.cells zero81 154)).alloc (Obj.cells zero81 154) = w1 at hB0 h0 h1 ⊢
  have hc0 : w1.cell? ⟨w.heap.size + 1, 0, none⟩ = some (.int .i64 0) := by rw [cell_of_row _ _ _ _ _ _ h1, zero81_at]; rfl
  have hf0 := frozen_of_row w1 (w.heap.size + 1) 0 zero81 _ h1
  have HR0 : Hid (WRel w (.int .i64 1) (w1.setCell ⟨w.heap.size + 1, 0, none⟩ (.int .i64 1))) := ⟨0, by omega, rfl, by
    rw [heap_setCell_other _ _ _ _ (by show w.heap.size ≠ w.heap.size + 1; omega)]
    exact h0, by rw [← wtv_zero]; exact heap_setCell_same w1 (w.heap.size + 1) 0 zero81 _ _ h1, hB0.setCell (by show w.heap.size ≤ w.heap.size + 1; omega) _⟩
  clear hB0 h0 h1
  go_wp2_with fail
  go_loopw [2] (fun i wr => WRel w i wr) (fun i _ => 81 - (intOf i).toNat)
  case atStart => exact HR0.out
  case round =>
    clear HR0 hc0 hf0
    obtain ⟨k, hk, rfl, h0, h1, hB⟩ := hrel
    by_cases hlt : k < 80
    · have hki : (k : Int) + 1 ≤ 80 := by omega
      have hk0 : (0 : Int) ≤ (k : Int) := by omega
      have HK : Hid (k < 80) := hlt
      have hwl : wt k < 1000000000000 := Nat.lt_of_le_of_lt (wt_mono (show k ≤ 80 by omega)) wt_small
      have hc1 : wr.cell? ⟨w.heap.size + 1, k, none⟩ = some (.int .i64 (wt k : Int)) := by
        rw [cell_of_row _ _ _ _ _ _ h1, wtv_at _ _ (by omega), if_pos (Nat.le_refl k)]
      have hc2 : wr.cell? ⟨w.heap.size + 1, k + 1, none⟩ = some (.int .i64 0) := by
        rw [cell_of_row _ _ _ _ _ _ h1, wtv_at _ _ (by omega), if_neg (by omega)]
      have hf2 := frozen_of_row wr (w.heap.size + 1) (k + 1) (wtv k) _ h1
      have HST : Hid (∀ v : Int, v = (wt (k + 1) : Int) → WRel w (.int .i64 ((k : Int) + 1 + 1)) (wr.setCell ⟨w.heap.size + 1, k + 1, none⟩ (.int .i64 v))) := fun v hv => ⟨k + 1, by omega, by congr 1, by
        rw [heap_setCell_other _ _ _ _ (by show w.heap.size ≠ w.heap.size + 1; omega)]
        exact h0, by rw [← wtv_step k (by omega) v hv]; exact heap_setCell_same wr (w.heap.size + 1) (k + 1) (wtv k) _ _ h1, hB.setCell (by show w.heap.size ≤ w.heap.size + 1; omega) _⟩
      have hw : ((wt (k + 1) : Nat) : Int) = (wt k : Int) + ((wt k : Int) + 2) / 3 := by rw [wt_succ]; omega
      have HW := Lib.hid hw
      clear hw
      generalize wt k = X at hc1 hwl HW
      have hX1 : IntKind.i64.wrap ((X : Int) + 2) = (X : Int) + 2 := by rw [IntKind.wrap_i64]; omega
      have hX2 : IntKind.i64.wrap ((X : Int) + ((X : Int) + 2) / 3) = (X : Int) + ((X : Int) + 2) / 3 := by rw [IntKind.wrap_i64]; omega
      have hk1 : (k : Int) + 1 - 1 = (k : Int) := by omega
      have HWL := Lib.hid hwl
      clear hB h0 h1 hwl hlt hk
      go_upto_region 6 with fail
      go_region
      have hv : wrap64 ((X : Int) + wrap64 (((X : Int) + 2).tdiv 3)) = (wt (k + 1) : Int) := by
        rw [HW.out, Int.tdiv_eq_ediv_of_nonneg (by omega)]
        have := HWL.out
        unfold wrap64
        omega
      have hst := HST.out _ hv
      clear HW HST
      generalize wrap64 ((X : Int) + wrap64 (((X : Int) + 2).tdiv 3)) = v at hst hv ⊢
      have HST := Lib.hid hst
      clear hst hv HWL
      go_wp2_with fail
      exact ⟨HST.out.drew, by simp [intOf]; omega⟩
    · obtain rfl : k = 80 := by omega
      have H0 := Lib.hid h0
      have H1 := Lib.hid h1
      have HB := Lib.hid hB
      clear h0 h1 hB hlt hk
      go_wp2_with (first | refine wpList_load_row rfl 154 (.tmp 1) rfl (w.heap.size + 1) rfl 154 (wtv 80) (0, 0) _ H1.out HU.out rfl (by rw [HI.out, wtv_size]) ?_ | refine wpList_store_row rfl 154 (.tmp 0) (.tmp 21) rfl w.heap.size (wtv 80) rfl rfl 154 zero81 H0.out (by rw [HI.out, wtv_size]) (by rw [wtv_size]; simp [zero81]) (wtv_one _) ?_)
      exact bodyPost_ret (v := .agg (wtv 80)) (results_cell_row rfl _ _ w.heap.size 154 (wtv 80) (0, 0) _ rfl (setRow_heap _ _ _ _ _ _ H0.out) HU.out rfl (by rw [HI.out, wtv_size])) rfl ⟨rfl, below_setRow HB.out (Nat.le_refl _) _⟩
set_option maxHeartbeats 1000000 in
set_option maxRecDepth 100000 in
theorem refMaxHeight_any (n : Int) (w : World) (h0 : -9223372036854775808 ≤ n) (h1 : n ≤ 9223372036854775807) : Calls Tryz.prog 87 #[.int .i64 n] w (Calm w (.int .i64 (xhI n))) := by
  by_cases hr : 0 ≤ n ∧ n ≤ 2147483647
  · obtain ⟨m, rfl⟩ := Int.eq_ofNat_of_zero_le hr.1
    have hm : (m : Int) ≤ 2147483647 := hr.2
    have hM : xhI (m : Int) = (xh m : Int) := by
      unfold xhI
      rw [if_pos hr, Int.toNat_natCast]
    have hg1 : decide ((m : Int) < 0) = false := decide_eq_false (by omega)
    have hg2 : decide ((2147483647 : Int) < (m : Int)) = false := decide_eq_false (by omega)
    have hz := zero81_run
    have hu : (Tryz.prog.underlying 154) = some (.array 81 3) := by kernel_rfl
    have hi : (Tryz.prog.info? 154).map (·.size) = some 81 := by kernel_rfl
    have HU := Lib.hid hu
    have HI := Lib.hid hi
    rw [hM]
    clear hM h0 h1 hr hu hi
    go_enter Tryz.func87, Tryz.ntmps87
    go_wp2_with fail
    refine (weights_any w).mono ?_
    rintro e w1 ⟨rfl, hb⟩
    have hnew := heap_alloc_new w1 (Obj.cells zero81 154)
    have HW1 := Lib.hid hnew
    have HB := Lib.hid (hb.trans ((below_new7 w1 (Obj.cells zero81 154)).mono hb.size))
    have hsz : w.heap.size ≤ w1.heap.size := hb.size
    clear hb hnew
    go_wp2_with (refine wpList_store_row rfl 154 (.tmp 3) (.tmp 11) rfl w1.heap.size (wtv 80) rfl rfl 154 zero81 HW1.out (by rw [HI.out, wtv_size]) (by rw [wtv_size]; simp [zero81]) (wtv_one _) ?_)
    have hrow : ((w1.alloc (Obj.cells zero81 154)).setRow w1.heap.size (wtv 80)).heap[w1.heap.size]? = some (.cells (wtv 80) 154 (0, 0)) := setRow_heap _ _ _ _ _ _ HW1.out
    have HBF : Hid (Below w.heap.size w ((w1.alloc (Obj.cells zero81 154)).setRow w1.heap.size (wtv 80))) := below_setRow HB.out hsz _
    have HROW := Lib.hid hrow
    clear hrow hsz hz
    generalize (w1.alloc (Obj.cells zero81 154)).setRow w1.heap.size (wtv 80) = w2 at HROW HBF ⊢
    generalize w1.heap.size = q at HROW ⊢
    clear HW1 HB
    have HST : Hid (xhF m 80 0 = xh m) := rfl
    go_loopw [4] (fun i wr => ∃ h : Nat, h ≤ 80 ∧ i = .int .i64 (h : Int) ∧ xhF m (80 - h) h = xh m ∧ wr = w2) (fun i _ => 80 - (intOf i).toNat)
    case atStart => exact ⟨0, Nat.zero_le _, rfl, HST.out, rfl⟩
    case round =>
      clear HST
      obtain ⟨h, hh, rfl, hx, rfl⟩ := hrel
      by_cases hlt : h < 80
      · have hc : wr.cell? ⟨q, h + 1, none⟩ = some (.int .i64 (wt (h + 1) : Int)) := by
          rw [cell_of_row _ _ _ _ _ _ HROW.out, wtv_at _ _ (by omega), if_pos (by omega)]
        have hwl : wt (h + 1) < 1000000000000 := Nat.lt_of_le_of_lt (wt_mono (show h + 1 ≤ 80 by omega)) wt_small
        have hwp := wt_pos (h + 1)
        have hd1 : decide ((h : Int) < 80) = true := decide_eq_true (by omega)
        have hhi : (h : Int) + 1 < 81 := by omega
        have hh0 : (0 : Int) ≤ (h : Int) + 1 := by omega
        have hht : ((h : Int) + 1).toNat = h + 1 := by omega
        have hw1 : IntKind.i64.wrap ((wt (h + 1) : Int) - 1) = (wt (h + 1) : Int) - 1 := by rw [IntKind.wrap_i64]; omega
        have HX := Lib.hid hx
        have HLT : Hid (h < 80) := hlt
        have HE : Hid (∀ f, xhF m (f + 1) h = if wt (h + 1) - 1 ≤ m then xhF m f (h + 1) else h) := fun f => rfl
        by_cases hle : wt (h + 1) - 1 ≤ m
        · have hd2 : decide ((wt (h + 1) : Int) - 1 ≤ (m : Int)) = true := decide_eq_true (by omega)
          have HX2 : Hid (xhF m (80 - (h + 1)) (h + 1) = xh m) := by
            have h1 := HE.out (80 - (h + 1))
            rw [if_pos hle] at h1
            rw [show 80 - (h + 1) + 1 = 80 - h by have := HLT.out; omega] at h1
            exact h1.symm.trans HX.out
          clear HX HE hle hwl hwp hlt hh hx
          generalize wt (h + 1) = X at hc hw1 hd2
          go_wp2_with fail
          exact ⟨⟨h + 1, by have := HLT.out; omega, by go_num, HX2.out, by first | rfl | trivial⟩, by have := HLT.out; simp [intOf]; omega⟩
        · have hd2 : decide ((wt (h + 1) : Int) - 1 ≤ (m : Int)) = false := decide_eq_false (by omega)
          have HX2 : Hid (h = xh m) := by
            have h1 := HE.out (80 - (h + 1))
            rw [if_neg hle] at h1
            rw [show 80 - (h + 1) + 1 = 80 - h by have := HLT.out; omega] at h1
            exact h1.symm.trans HX.out
          clear HX HE hle hwl hwp hlt hh hx
          generalize wt (h + 1) = X at hc hw1 hd2
          go_wp2_with fail
          go_ret
          exact ⟨by rw [← HX2.out]; rfl, HBF.out⟩
      · obtain rfl : h = 80 := by omega
        have HX2 : Hid (80 = xh m) := hx
        clear hx hlt hh
        go_wp2_with fail
        go_ret
        exact ⟨by rw [← HX2.out]; rfl, HBF.out⟩
  · have HM : xhI n = -1 := if_neg hr
    rw [HM]
    clear HM
    by_cases hn : n < 0
    · have g1 := decide_eq_true hn
      clear hr hn
      go_enter Tryz.func87, Tryz.ntmps87
      go_wp2
      go_ret
      exact ⟨rfl, Below.refl _ _⟩
    · have g1 := decide_eq_false hn
      have g2 : decide ((2147483647 : Int) < n) = true := decide_eq_true (by omega)
      clear hr hn
      go_enter Tryz.func87, Tryz.ntmps87
      go_wp2
      go_ret
      exact ⟨rfl, Below.refl _ _⟩
end Go.Proofs.YtfihklpofmcfgaaGreat
namespace Go.Proofs.YtfihklpofmcfgaaGreat
/-- a reference that isn't the last one is removed, one of 0 too -/
theorem gone_shared {A : Ar} {i : Nat} (h0 : i ≠ 0) (hc : A.cnt i ≠ 1) : A.gone i = A.dec i ∧ A.freed i = 0 := by
  unfold Ar.gone Ar.freed Ar.fuel
  have h1 : Ar.run (3 * A.σ.cap + 1) A [i] = Ar.run (3 * A.σ.cap) (A.dec i) [] := by
    conv => lhs; unfold Ar.run
    rw [if_neg h0, if_neg hc]
  rw [h1]
  cases 3 * A.σ.cap <;> exact ⟨rfl, rfl⟩
theorem gone_zero (A : Ar) : A.gone 0 = A ∧ A.freed 0 = 0 := by
  unfold Ar.gone Ar.freed Ar.fuel
  have h1 : Ar.run (3 * A.σ.cap + 1) A [0] = Ar.run (3 * A.σ.cap) A [] := by
    conv => lhs; unfold Ar.run
    rw [if_pos rfl]
  rw [h1]
  cases 3 * A.σ.cap <;> exact ⟨rfl, rfl⟩
/-- the root alone is held -/
def hk (k : Nat) : Nat → Nat := fun j => if j = k ∧ k ≠ 0 then 1 else 0
/-- what was there stays, nodes and all -/
structure Ar.Kept (A B : Ar) : Prop where
  cap : B.σ.cap = A.σ.cap
  on : ∀ j, A.σ.on j = true → B.σ.on j = true
  nd : ∀ j, A.σ.on j = true → B.nd j = A.nd j
theorem Ar.Kept.refl (A : Ar) : A.Kept A := ⟨rfl, fun _ h => h, fun _ _ => rfl⟩
theorem Ar.Kept.trans {A B C : Ar} (h : A.Kept B) (h' : B.Kept C) : A.Kept C := ⟨h'.cap.trans h.cap, fun j hj => h'.on j (h.on j hj), fun j hj => (h'.nd j (h.on j hj)).trans (h.nd j hj)⟩
theorem Ar.Kept.dec (A : Ar) (i : Nat) : A.Kept (A.dec i) := ⟨rfl, fun _ h => h, fun _ _ => rfl⟩
theorem Ar.Kept.idx {A B : Ar} (h : A.Kept B) {i : Nat} (hi : i = 0 ∨ A.σ.on i = true) : i = 0 ∨ B.σ.on i = true := hi.imp_right (h.on i)
theorem Ar.Kept.made {A : Ar} {i : Nat} {t : List Nat} (x : Nd) {s : List Nat} {held : Nat → Nat} (h : A.Inv s held) (hf : A.σ.free = i :: t) : A.Kept (A.made i t x) := by
  have hi := ((h.ok.free i).1 (by rw [hf]; simp)).2.2
  have hne : ∀ j, A.σ.on j = true → j ≠ i := fun j hj e => by subst e; rw [hi] at hj; cases hj
  exact ⟨rfl, fun j hj => (take_other A.σ t (hne j hj)).trans hj, fun j hj => if_neg (hne j hj)⟩
theorem Sub.kept {A B : Ar} (hk : A.Kept B) {i : Nat} {t : Tr} (h : Sub A i t) : Sub B i t := by
  induction h with
  | nil => exact .nil
  | node i l r h0 h1 hl hr ihl ihr => exact .node i l r h0 (hk.on i h1) (by rw [hk.nd i h1]; exact ihl) (by rw [hk.nd i h1]; exact ihr)
theorem Sub.on {A : Ar} {i : Nat} {t : Tr} (h : Sub A i t) : ∀ j ∈ t.idx, A.σ.on j = true := by
  induction h with
  | nil => intro j hj; cases hj
  | node i l r h0 h1 hl hr ihl ihr =>
    intro j hj
    unfold Tr.idx at hj
    rcases List.mem_append.1 hj with hj | hj
    · exact ihl j hj
    · rcases List.mem_cons.1 hj with rfl | hj
      · exact h1
      · exact ihr j hj
/-- the entries in the order of the tree -/
def Tr.ents (nd : Nat → Nd) (t : Tr) : List En := t.idx.map fun i => ⟨(nd i).key, (nd i).val⟩
theorem Tr.ents_node (nd : Nat → Nd) (i : Nat) (l r : Tr) : (Tr.node i l r).ents nd = l.ents nd ++ ⟨(nd i).key, (nd i).val⟩ :: r.ents nd := by simp [Tr.ents, Tr.idx]
theorem Tr.ents_keys (nd : Nat → Nd) (t : Tr) : t.keys nd = (t.ents nd).map (·.key) := by simp [Tr.keys, Tr.ents]
theorem Tr.idx_len : ∀ t : Tr, t.idx.length = t.size
  | .nil => rfl
  | .node i l r => by simp [Tr.idx, Tr.size, Tr.idx_len l, Tr.idx_len r]; omega
theorem Tr.ents_len (nd : Nat → Nd) (t : Tr) : (t.ents nd).length = t.size := by unfold Tr.ents; rw [List.length_map, Tr.idx_len]
theorem Tr.ents_kept {A B : Ar} (hk : A.Kept B) {i : Nat} {t : Tr} (h : Sub A i t) : t.ents B.nd = t.ents A.nd := by
  unfold Tr.ents
  exact List.map_congr_left fun j hj => by rw [hk.nd j (h.on j hj)]
/-- balanced, by the sizes of the trees -/
def Tr.bal : Tr → Bool
  | .nil => true
  | .node i l r => Proofs.YtfihklpofmcfgaaGreat.bal (l.size : Int) (r.size : Int) && l.bal && r.bal
theorem balT_bal {A : Ar} (ha : A.Agg) {i : Nat} {t : Tr} (h : Sub A i t) : balT A t = t.bal := by
  induction h with
  | nil => rfl
  | node i l r h0 h1 hl hr ihl ihr => unfold balT Tr.bal; rw [hl.size ha, hr.size ha, ihl, ihr]
/-- a reference more, of 0 none -/
def pls (held : Nat → Nat) (i : Nat) : Nat → Nat := if i = 0 then held else more held i
theorem pls_zero (held : Nat → Nat) : pls held 0 = held := rfl
theorem pls_at (held : Nat → Nat) (i j : Nat) : pls held i j = held j + (if i ≠ 0 ∧ j = i then 1 else 0) := by
  unfold pls more
  by_cases h : i = 0
  · rw [if_pos h, if_neg (fun h1 => h1.1 h)]; rfl
  · rw [if_neg h]
    by_cases e : j = i
    · subst e; show (if j = j then _ else _) = _; rw [if_pos rfl, if_pos ⟨h, rfl⟩]
    · show (if j = i then _ else _) = _; rw [if_neg e, if_neg (fun h1 => e h1.2)]; rfl
theorem more_pls {held : Nat → Nat} {i : Nat} (h : i ≠ 0) : more held i = pls held i := by unfold pls; rw [if_neg h]
/-- a reference less, of 0 none -/
def mns (held : Nat → Nat) (i : Nat) : Nat → Nat := if i = 0 then held else less held i
theorem mns_at (held : Nat → Nat) (i j : Nat) : mns held i j = held j - (if i ≠ 0 ∧ j = i then 1 else 0) := by
  unfold mns less
  by_cases h : i = 0
  · rw [if_pos h, if_neg (fun h1 => h1.1 h)]; rfl
  · rw [if_neg h]
    by_cases e : j = i
    · subst e; show (if j = j then _ else _) = _; rw [if_pos rfl, if_pos ⟨h, rfl⟩]
    · show (if j = i then _ else _) = _; rw [if_neg e, if_neg (fun h1 => e h1.2)]; rfl
/-- a held reference given back where another one is there -/
theorem Ar.Inv.shared {A : Ar} {held : Nat → Nat} (h : A.Inv [] held) {i : Nat} (hi : i ≠ 0 → 0 < held i ∧ 2 ≤ A.cnt i) (ha : A.Agg) :
    (A.Idx i → A.Inv [i] (mns held i)) ∧ A.Idx i ∧ (A.gone i).Inv [] (mns held i) ∧ (A.gone i).Agg ∧ A.Kept (A.gone i) ∧ (A.gone i).σ = A.σ ∧ ∀ j, (A.gone i).cnt j = A.cnt j - (if i ≠ 0 ∧ j = i then 1 else 0) := by
  by_cases h0 : i = 0
  · subst h0
    rw [(gone_zero A).1]
    exact ⟨fun _ => h.give0, .inl rfl, h, ha, .refl A, rfl, fun j => by rw [if_neg (fun h => h.1 rfl)]; omega⟩
  · obtain ⟨h1, h2⟩ := hi h0
    have hon := h.held i h1
    rw [(gone_shared h0 (by omega)).1]
    have e : mns held i = less held i := by unfold mns; rw [if_neg h0]
    rw [e]
    refine ⟨fun _ => h.give h1, .inr hon, (h.give h1).popDec hon h2, ha.dec i, .dec A i, rfl, fun j => ?_⟩
    show (if j = i then A.cnt i - 1 else A.cnt j) = _
    by_cases e2 : j = i
    · subst e2; rw [if_pos rfl, if_pos ⟨h0, rfl⟩]
    · rw [if_neg e2, if_neg (fun h => e2 h.2)]; omega
structure Planted (A : Ar) (held : Nat → Nat) (l : List En) (A' : Ar) (i : Nat) (t : Tr) : Prop where
  kept : A.Kept A'
  inv : A'.Inv [] (pls held i)
  agg : A'.Agg
  sub : Sub A' i t
  ents : t.ents A'.nd = l
  bal : t.bal = true
  free : A'.σ.free.length + l.length = A.σ.free.length
theorem Planted.nil {A : Ar} {held : Nat → Nat} (h : A.Inv [] held) (ha : A.Agg) : Planted A held [] A 0 .nil := ⟨.refl A, h, ha, .nil, rfl, rfl, rfl⟩
theorem Planted.size {A A' : Ar} {held : Nat → Nat} {l : List En} {i : Nat} {t : Tr} (h : Planted A held l A' i t) : t.size = l.length := by rw [← h.ents, Tr.ents_len]
theorem Planted.sz {A A' : Ar} {held : Nat → Nat} {l : List En} {i : Nat} {t : Tr} (h : Planted A held l A' i t) : A'.sz i = (l.length : Int) := by rw [h.sub.size h.agg, h.size]
/-- the state behind Make and the two releases -/
def Ar.over (A : Ar) (i : Nat) (tl : List Nat) (x : Nd) : Ar := ((A.made i tl x).gone x.left).gone x.right
theorem made_cnt {A : Ar} {held : Nat → Nat} {i : Nat} {tl : List Nat} {x : Nd} (h : A.Inv [] held) (hf : A.σ.free = i :: tl) {j : Nat} (hj : A.σ.on j = true) : (A.made i tl x).cnt j = A.cnt j + (hit x.left j : Int) + (hit x.right j : Int) := by
  have hi := ((h.ok.free i).1 (by rw [hf]; simp)).2.2
  have hne : j ≠ i := fun e => by subst e; rw [hi] at hj; cases hj
  have h0 := (h.ok.on j hj).1
  show (if j = i then (1 : Int) else if j = 0 then A.cnt 0 else A.cnt j + _ + _) = _
  rw [if_neg hne, if_neg (by omega)]
theorem over_ok {A : Ar} {held : Nat → Nat} {i : Nat} {tl : List Nat} {key val : Int} {il ir : Nat} {x : Nd} (hx : x = A.node key val il ir) (h : A.Inv [] (pls (pls held il) ir)) (ha : A.Agg) (hf : A.σ.free = i :: tl) (hl : il = 0 ∨ A.σ.on il = true) (hr : ir = 0 ∨ A.σ.on ir = true) (hs : x.size ≤ 2147483647) :
    (A.over i tl x).Inv [] (pls held i) ∧ (A.over i tl x).Agg ∧ A.Kept (A.over i tl x) ∧ (A.over i tl x).σ = A.σ.take i tl ∧ (A.over i tl x).nd i = x ∧ i ≠ 0 ∧
    ((A.made i tl x).Idx il → (A.made i tl x).Inv [il] (mns (more (pls (pls held il) ir) i) il)) ∧ (A.made i tl x).Idx il ∧
    (((A.made i tl x).gone il).Idx ir → ((A.made i tl x).gone il).Inv [ir] (mns (mns (more (pls (pls held il) ir) i) il) ir)) ∧ ((A.made i tl x).gone il).Idx ir := by
  have hi := (h.ok.free i).1 (by rw [hf]; simp)
  have h1 := h.made (x := x) hf (by rw [hx]; exact hl) (by rw [hx]; exact hr)
  have ha1 : (A.made i tl x).Agg := by rw [hx]; exact ha.made h hf hl hr (by rw [← hx]; exact hs)
  have ex : x.left = il ∧ x.right = ir := by rw [hx]; exact ⟨rfl, rfl⟩
  have hne : ∀ j, A.σ.on j = true → j ≠ i := fun j hj e => by subst e; rw [hi.2.2] at hj; cases hj
  have pl := fun j => pls_at (pls held il) ir j
  have pl2 := fun j => pls_at held il j
  have c1 : il ≠ 0 → 0 < more (pls (pls held il) ir) i il ∧ 2 ≤ (A.made i tl x).cnt il := fun h0 => by
    have hon := hl.resolve_left h0
    refine ⟨?_, ?_⟩
    · unfold more
      rw [if_neg (hne il hon), pl, pl2, if_pos ⟨h0, rfl⟩]; omega
    · rw [made_cnt h hf hon, ex.1]
      have := h.pos il hon
      have e : hit il il = 1 := if_pos rfl
      rw [e]; omega
  obtain ⟨g1, g2, g3, g4, g5, g6, g7⟩ := h1.shared c1 ha1
  have c2 : ir ≠ 0 → 0 < mns (more (pls (pls held il) ir) i) il ir ∧ 2 ≤ ((A.made i tl x).gone il).cnt ir := fun h0 => by
    have hon := hr.resolve_left h0
    refine ⟨?_, ?_⟩
    · rw [mns_at]
      unfold more
      rw [if_neg (hne ir hon), pl, pl2]
      rw [if_pos (show ir ≠ 0 ∧ ir = ir from ⟨h0, rfl⟩)]
      split <;> omega
    · rw [g7, made_cnt h hf hon, ex.1, ex.2]
      have := h.pos ir hon
      have e : hit ir ir = 1 := if_pos rfl
      rw [e]
      unfold hit
      by_cases e2 : il = ir
      · rw [if_pos e2, if_pos ⟨by omega, e2.symm⟩]; omega
      · rw [if_neg e2, if_neg (fun h => e2 h.2.symm)]; omega
  obtain ⟨k1, k2, k3, k4, k5, k6, k7⟩ := g3.shared c2 g4
  have eo : A.over i tl x = ((A.made i tl x).gone il).gone ir := by unfold Ar.over; rw [ex.1, ex.2]
  have hheld : mns (mns (more (pls (pls held il) ir) i) il) ir = pls held i := by
    funext j
    have hj1 := mns_at (mns (more (pls (pls held il) ir) i) il) ir j
    have hj2 := mns_at (more (pls (pls held il) ir) i) il j
    rw [hj1, hj2, more_pls (by omega), pls_at, pls_at, pls_at, pls_at]
    omega
  have hkm := Ar.Kept.made (i := i) (t := tl) x h hf
  rw [eo]
  refine ⟨hheld ▸ k3, k4, (hkm.trans g5).trans k5, ?_, ?_, by omega, g1, g2, k1, k2⟩
  · rw [k6, g6]; rfl
  · have hon : (A.made i tl x).σ.on i = true := take_same A.σ i tl
    rw [k5.nd i (g5.on i hon), g5.nd i hon]
    show (if i = i then x else _) = x
    rw [if_pos rfl]
theorem Planted.node {A A1 A2 : Ar} {held : Nat → Nat} {l1 l2 : List En} {e : En} {il ir i : Nat} {tl tr : Tr} {fr : List Nat} {x : Nd} (h1 : Planted A held l1 A1 il tl) (h2 : Planted A1 (pls held il) l2 A2 ir tr) (hf : A2.σ.free = i :: fr)
    (hx : x = A2.node e.key e.val il ir) (hb : Proofs.YtfihklpofmcfgaaGreat.bal (l1.length : Int) (l2.length : Int) = true) (hs : (l1.length + l2.length + 1 : Int) ≤ 2147483647) : Planted A held (l1 ++ e :: l2) (A2.over i fr x) i (.node i tl tr) ∧ x.size ≤ 2147483647 := by
  have hsl := h1.sub.kept h2.kept
  have hszl : A2.sz il = (l1.length : Int) := by rw [hsl.size h2.agg, h1.size]
  have hszr := h2.sz
  have hsz : x.size ≤ 2147483647 := by
    rw [hx]
    show 1 + A2.sz il + A2.sz ir ≤ _
    rw [hszl, hszr]; omega
  obtain ⟨o1, o2, o3, o4, o5, o6, _⟩ := over_ok hx h2.inv h2.agg hf hsl.idx h2.sub.idx hsz
  have oi : (A2.over i fr x).σ.on i = true := by rw [o4]; exact take_same A2.σ i fr
  have ex : x.left = il ∧ x.right = ir ∧ x.key = e.key ∧ x.val = e.val := by rw [hx]; exact ⟨rfl, rfl, rfl, rfl⟩
  refine ⟨⟨(h1.kept.trans h2.kept).trans o3, o1, o2, ?_, ?_, ?_, ?_⟩, hsz⟩
  · exact .node i tl tr o6 oi (by rw [o5, ex.1]; exact hsl.kept o3) (by rw [o5, ex.2.1]; exact h2.sub.kept o3)
  · rw [Tr.ents_node, o5, Tr.ents_kept o3 hsl, Tr.ents_kept o3 h2.sub, Tr.ents_kept h2.kept h1.sub, h1.ents, h2.ents, ex.2.2.1, ex.2.2.2]
  · unfold Tr.bal
    rw [h1.size, h2.size, hb, h1.bal, h2.bal]; rfl
  · have f1 := h1.free
    have f2 := h2.free
    have f3 : (A2.over i fr x).σ.free = fr := by rw [o4]; rfl
    rw [f3]
    rw [hf] at f2
    simp only [List.length_append, List.length_cons] at f2 ⊢
    omega
def Ar.Wf (A : Ar) : Prop := ∀ i, A.σ.on i = true → i64R (A.nd i).key ∧ i64R (A.nd i).val
theorem Ar.Wf.made {A : Ar} {i : Nat} {t : List Nat} {x : Nd} (h : A.Wf) (hx : i64R x.key ∧ i64R x.val) : (A.made i t x).Wf := fun j hj => by
  by_cases e : j = i
  · have e1 : (A.made i t x).nd j = x := if_pos e
    rw [e1]; exact hx
  · have e1 : (A.made i t x).nd j = A.nd j := if_neg e
    rw [e1]; exact h j (take_is hj e)
theorem run_on : ∀ (f : Nat) (A : Ar) (s : List Nat) (j : Nat), (Ar.run f A s).1.σ.on j = true → A.σ.on j = true ∧ (Ar.run f A s).1.nd j = A.nd j
  | 0, A, s, j, h => ⟨h, rfl⟩
  | f + 1, A, [], j, h => ⟨h, rfl⟩
  | f + 1, A, i :: t, j, h => by
    unfold Ar.run at h ⊢
    by_cases h0 : i = 0
    · rw [if_pos h0] at h ⊢; exact run_on f A t j h
    · rw [if_neg h0] at h ⊢
      by_cases h1 : A.cnt i = 1
      · rw [if_pos h1] at h ⊢
        obtain ⟨h2, h3⟩ := run_on f (A.drop i) _ j h
        obtain ⟨h4, h5⟩ := put_is h2
        exact ⟨h5, h3.trans (if_neg h4)⟩
      · rw [if_neg h1] at h ⊢
        exact run_on f (A.dec i) t j h
theorem Ar.Wf.gone {A : Ar} (h : A.Wf) (i : Nat) : (A.gone i).Wf := fun j hj => by
  obtain ⟨h1, h2⟩ := run_on A.fuel A [i] j hj
  have e : (A.gone i).nd j = A.nd j := h2
  rw [e]; exact h j h1
end Go.Proofs.YtfihklpofmcfgaaGreat
