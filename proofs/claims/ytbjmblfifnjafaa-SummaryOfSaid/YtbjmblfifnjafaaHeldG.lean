/- A drawn region whose last operation, which waits for all the others, writes what the region loads: the condition on the world is asked behind each operation but that one. -/
import Derived.Deep.RegionHeld3
set_option linter.unusedVariables false
namespace Go.Proofs.Ytbjmblfifnjafaa
section
variable {P : Program} {ops : Array Oper} {Q : Exit → Act → World → Prop} {md : Region.Mode} {S : World → Prop} {z : Nat}
/-- whatever order is picked from here on; S holds behind each operation other than number z -/
def anyG (P : Program) (md : Region.Mode) (ops : Array Oper) (Q : Exit → Act → World → Prop) (S : World → Prop) (z : Nat) : Nat → Array Bool → Act → World → Prop
  | 0, ls, a, w => Region.ready md ops ls = [] ∧ Q .normal a w
  | n + 1, ls, a, w => (Region.ready md ops ls = [] → Q .normal a w) ∧
      ∀ k, k ∈ Region.ready md ops ls → wpOp P ops Q k (fun a' w' => (k ≠ z → S w') ∧ anyG P md ops Q S z n (ls.setIfInBounds k true) a' w') a w
theorem anyG_any (n : Nat) : ∀ (ls : Array Bool) (a : Act) (w : World), anyG P md ops Q S z n ls a w → wpAny P md ops Q n ls a w := by
  induction n with
  | zero => exact fun _ _ _ h => h
  | succ n ih => exact fun ls a w h => ⟨h.1, fun k hk => wpOp_mono (fun a' w' h' => ih _ a' w' h'.2) (h.2 k hk)⟩
theorem anyG_begin {id : Nat} {a : Act} {w : World} (hm : P.follows .mixedOrders = true) (hS : S w.drew)
    (h : S w.drew → anyG P .any ops Q S z ops.size (Array.replicate ops.size false) a w.drew) : (Code.region id ops true).wp P Q a w :=
  wp_region_any hm (anyG_any _ _ _ _ (h hS))
/-- number z waits for number k -/
def waits (md : Region.Mode) (ops : Array Oper) (z k : Nat) : Bool := (ops[z]?.map fun x => x.after.toList.any fun e => Region.binds md e && e.on == k).getD false
theorem waits_not {k : Nat} (hz : waits md ops z k = true) {ls : Array Bool} (hk : ls.getD k true = false) : ¬ z ∈ Region.ready md ops ls := by
  intro h
  obtain ⟨_, x, hx, hall⟩ := mem_ready.1 h
  unfold waits at hz
  rw [hx] at hz
  simp only [Option.map_some, Option.getD_some, List.any_eq_true, Bool.and_eq_true, beq_iff_eq] at hz
  obtain ⟨e, he, hb, hek⟩ := hz
  have h1 := hall e (by simpa using he) hb
  rw [hek] at h1
  by_cases hlt : k < ls.size
  · simp [hlt] at hk h1
    rw [hk] at h1
    cases h1
  · simp [Array.getElem?_eq_none (Nat.le_of_not_lt hlt)] at h1
/-- an operation that is ready, yields wherever S holds and is apart from what is open: first -/
theorem anyG_front {k : Nat} {o : Oper} {v : Value} (hk : ops[k]? = some o) (hsel : ∀ (j : Nat) (x : Oper) cs b, ops[j]? = some x → x.op ≠ .select cs b) (hz : waits md ops z k = true)
    (hQ : ∀ c a w, Q (.panic c) (a.put o.dst v) w → Q (.panic c) a w) (n : Nat) : ∀ (ls : Array Bool) (a : Act) (w : World),
      (∀ j x, ops[j]? = some x → j ≠ k → ls.getD j true = false → (∀ e ∈ x.after, Region.binds md e = true → e.on ≠ k) → o.apart ops x = true) →
      k ∈ Region.ready md ops ls → YieldsIf P ops S o v a → S w → anyG P md ops Q S z n (ls.setIfInBounds k true) (a.put o.dst v) w → anyG P md ops Q S z (n + 1) ls a w := by
  have base : ∀ (n : Nat) (ls : Array Bool) (a : Act) (w : World), YieldsIf P ops S o v a → S w → anyG P md ops Q S z n (ls.setIfInBounds k true) (a.put o.dst v) w →
      wpOp P ops Q k (fun a' w' => (k ≠ z → S w') ∧ anyG P md ops Q S z n (ls.setIfInBounds k true) a' w') a w :=
    fun n ls a w hy hS H => hy.wpOp hk hS ⟨fun _ => hS, H⟩
  have notNil : ∀ ls, k ∈ Region.ready md ops ls → Region.ready md ops ls ≠ [] := fun ls h e => by rw [e] at h; cases h
  induction n with
  | zero =>
    intro ls a w _ hr hy hS H
    refine ⟨fun e => absurd e (notNil ls hr), fun j hj => ?_⟩
    rcases Nat.decEq j k with hjk | rfl
    · exact absurd (H.1 ▸ ready_mono hj hjk) (by simp)
    · exact base 0 ls a w hy hS H
  | succ n ih =>
    intro ls a w hf hr hy hS H
    refine ⟨fun e => absurd e (notNil ls hr), fun j hj => ?_⟩
    rcases Nat.decEq j k with hjk | rfl
    · obtain ⟨hju, x, hx, hall⟩ := mem_ready.1 hj
      have hku := (mem_ready.1 hr).1
      have hjz : j ≠ z := fun e => waits_not hz hku (e ▸ hj)
      have hno : ∀ e ∈ x.after, Region.binds md e = true → e.on ≠ k := by
        rintro e he hb rfl
        have h1 := hall e he hb
        by_cases hlt : e.on < ls.size
        · simp [hlt] at hku h1
          rw [hku] at h1
          cases h1
        · simp [Array.getElem?_eq_none (Nat.le_of_not_lt hlt)] at h1
      have hs := wpOp_putIf hx (hf j x hx hjk hju hno) (fun cs b => hsel k o cs b hk) (fun cs b => hsel j x cs b hx) hQ hy (H.2 j (ready_mono hj hjk))
      refine wpOp_mono (fun a' w' h3 => ?_) hs
      have hS' : S w' := h3.2.1 hjz
      refine ⟨fun _ => hS', ih _ a' w' (fun i y hy' hik hun hno' => hf i y hy' hik ?_ hno') (ready_mono hr (Ne.symm hjk)) h3.1 hS' (by rw [Array.setIfInBounds_comm _ _ hjk]; exact h3.2.2)⟩
      rcases Nat.decEq j i with hji | rfl
      · rwa [getD_set_ne true hji] at hun
      · exact hju
    · exact base (n + 1) ls a w hy hS H
theorem anyG_take {k : Nat} {o : Oper} {v : Value} {n : Nat} {ls : Array Bool} {a : Act} {w : World} (d : Option Tmp) (hk : ops[k]? = some o) (hs : Region.noSelect ops = true) (hf : Region.free md ops ls k = true) (hr : (Region.ready md ops ls).contains k = true) (hz : waits md ops z k = true)
    (hQ : ∀ c a w, Q (.panic c) (a.put o.dst v) w → Q (.panic c) a w) (hy : YieldsIf P ops S o v a) (hS : S w) (hd : o.dst = d) (h : anyG P md ops Q S z n (ls.setIfInBounds k true) (a.put d v) w) : anyG P md ops Q S z (n + 1) ls a w :=
  anyG_front hk (Region.noSelect_spec hs) hz hQ n ls a w (Region.free_spec hk hf) (by simpa using hr) hy hS (by rw [hd]; exact h)
/-- one operation alone is ready, and it is not number z -/
theorem anyG_one {k : Nat} {o : Oper} {n : Nat} {ls : Array Bool} {a : Act} {w : World} (hr : Region.ready md ops ls = [k]) (hk : ops[k]? = some o)
    (h : ∀ K : Act → World → Prop, Shut (∀ a w, S w → (S w → anyG P md ops Q S z n (ls.setIfInBounds k true) a w) → K a w) → if Region.wanted o (yielded ops a.tmps) = true then Oper.wp P o a w K Q else K (a.put o.dst undef) w) : anyG P md ops Q S z (n + 1) ls a w := by
  refine ⟨fun e => (by rw [hr] at e; cases e), fun j hj => ?_⟩
  rw [hr] at hj
  obtain rfl : j = k := by simpa using hj
  exact wpOp_step hk fun K hK => h K fun a w hS hW => hK a w ⟨fun _ => hS, hW hS⟩
/-- number k comes up next -/
def stepG (P : Program) (md : Region.Mode) (ops : Array Oper) (Q : Exit → Act → World → Prop) (S : World → Prop) (z n : Nat) (ls : Array Bool) (a : Act) (w : World) (k : Nat) : Prop :=
  wpOp P ops Q k (fun a' w' => (k ≠ z → S w') ∧ anyG P md ops Q S z n (ls.setIfInBounds k true) a' w') a w
theorem stepG_of {k : Nat} {o : Oper} {n : Nat} {ls : Array Bool} {a : Act} {w : World} (hk : ops[k]? = some o)
    (h : ∀ K : Act → World → Prop, Shut (∀ a w, S w → (S w → anyG P md ops Q S z n (ls.setIfInBounds k true) a w) → K a w) → if Region.wanted o (yielded ops a.tmps) = true then Oper.wp P o a w K Q else K (a.put o.dst undef) w) : stepG P md ops Q S z n ls a w k :=
  wpOp_step hk fun K hK => h K fun a w hS hW => hK a w ⟨fun _ => hS, hW hS⟩
/-- either of two -/
theorem anyG_two {j k : Nat} {n : Nat} {ls : Array Bool} {a : Act} {w : World} (hr : Region.ready md ops ls = [j, k]) (hj : stepG P md ops Q S z n ls a w j) (hk : stepG P md ops Q S z n ls a w k) : anyG P md ops Q S z (n + 1) ls a w := by
  refine ⟨fun e => (by rw [hr] at e; cases e), fun i hi => ?_⟩
  rw [hr] at hi
  rcases List.mem_cons.1 hi with rfl | hi
  · exact hj
  · obtain rfl : i = k := by simpa using hi
    exact hk
/-- the last one -/
theorem anyG_last {o : Oper} {n : Nat} {ls : Array Bool} {a : Act} {w : World} (hr : Region.ready md ops ls = [z]) (hr2 : Region.ready md ops (ls.setIfInBounds z true) = []) (hk : ops[z]? = some o)
    (h : ∀ K : Act → World → Prop, Shut (∀ a w, Q .normal a w → K a w) → if Region.wanted o (yielded ops a.tmps) = true then Oper.wp P o a w K Q else K (a.put o.dst undef) w) : anyG P md ops Q S z (n + 1) ls a w := by
  refine ⟨fun e => (by rw [hr] at e; cases e), fun j hj => ?_⟩
  rw [hr] at hj
  obtain rfl : j = z := by simpa using hj
  refine wpOp_step hk fun K hK => h K fun a w hQ' => hK a w ⟨fun e => absurd rfl e, ?_⟩
  cases n with
  | zero => exact ⟨hr2, hQ'⟩
  | succ n => exact ⟨fun _ => hQ', by rw [hr2]; simp⟩
end
end Go.Proofs.Ytbjmblfifnjafaa
