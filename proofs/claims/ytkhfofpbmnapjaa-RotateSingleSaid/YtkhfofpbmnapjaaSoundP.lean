/- The findings of a dump, as plain data; no more than six for a slot. No program is spoken of. The dump of an arena whose counts are right has no findings, if the roots are what is held. No program is spoken of. -/
import Derived.Test.YtkhfofpbmnapjaaDumpR
import Derived.Test.YtkhfofpbmnapjaaPlayPure
set_option linter.unusedVariables false
namespace Go.Proofs.Ytkhfofpbmnapjaa

structure Fd where
  kind : Int
  slot : Nat
  want : Int
  have_ : Int
def fdV (f : Fd) : List Value := [.int .i64 f.kind, .int .u32 (f.slot : Int), .int .i64 f.want, .int .i64 f.have_]
def fdsV (l : List Fd) : List Value := l.flatMap fdV
theorem fdsV_len (l : List Fd) : (fdsV l).length = l.length * 4 := by
  unfold fdsV
  induction l with
  | nil => rfl
  | cons f t ih => rw [List.flatMap_cons, List.length_append, ih, List.length_cons]; simp [fdV]; omega
theorem fdsV_app (l m : List Fd) : fdsV (l ++ m) = fdsV l ++ fdsV m := by simp [fdsV]
theorem fdsV_snoc (l : List Fd) (f : Fd) : fdsV (l ++ [f]) = fdsV l ++ fdV f := by simp [fdsV]
def opt (b : Bool) (f : Fd) : List Fd := if b = true then [f] else []
theorem opt_le (b : Bool) (f : Fd) : (opt b f).length ≤ 1 := by unfold opt; split <;> simp
section
variable (S : Nat → Sl) (n : Nat) (fr rs : List Nat) (R : Nat → Bool)
def wantFree (i : Nat) : Int := if (S i).on = true then 0 else 1
def F1 (i : Nat) : List Fd := opt (((fr.count (i + 1) : Nat) : Int) != wantFree S i) ⟨1, i + 1, wantFree S i, ((fr.count (i + 1) : Nat) : Int)⟩
def kidF (i t : Nat) : List Fd := opt (!decide (Al S n (kd (S i) t)) && kd (S i) t != 0) ⟨2, i + 1, 0, ((kd (S i) t : Nat) : Int)⟩
/-- the size by the first t children -/
def szF (i : Nat) : Nat → Int
  | 0 => 1
  | t + 1 => if Al S n (kd (S i) t) then IntKind.i64.wrap (szF i t + (S (kd (S i) t - 1)).nd.size) else szF i t
def kidsF (i t : Nat) : List Fd := (List.range t).flatMap (kidF S n i)
def F3 (i : Nat) : List Fd := opt (szF S n i 2 != (S i).nd.size) ⟨3, i + 1, szF S n i 2, (S i).nd.size⟩
def wantCount (i : Nat) : Int := if (S i).on = true then ((eg S n (i + 1) + rs.count (i + 1) : Nat) : Int) else 0
def F4 (i : Nat) : List Fd := opt (wantCount S n rs i != (S i).cnt) ⟨4, i + 1, wantCount S n rs i, (S i).cnt⟩
def F5 (i : Nat) : List Fd := opt ((S i).on && !R i) ⟨5, i + 1, 0, 0⟩
/-- the findings of slot i + 1 -/
def chk1 (i : Nat) : List Fd := F1 S fr i ++ ((if (S i).on = true then kidsF S n i 2 ++ F3 S n i else []) ++ (F4 S n rs i ++ F5 S R i))
def chks (k : Nat) : List Fd := (List.range k).flatMap (chk1 S n fr rs R)
def rngF (x : Nat) : List Fd := opt (decide (x < 1) || decide (n < x)) ⟨6, x, 0, 0⟩
def rootF (x : Nat) : List Fd := opt (x != 0 && !decide (Al S n x)) ⟨7, x, 0, 0⟩
def chk : List Fd := chks S n fr rs R n ++ (fr.flatMap (rngF n) ++ rs.flatMap (rootF S n))
theorem kidsF_succ (i t : Nat) : kidsF S n i (t + 1) = kidsF S n i t ++ kidF S n i t := by simp [kidsF, List.range_succ]
theorem chks_succ (k : Nat) : chks S n fr rs R (k + 1) = chks S n fr rs R k ++ chk1 S n fr rs R k := by simp [chks, List.range_succ]
theorem chk1_le (i : Nat) : (chk1 S n fr rs R i).length ≤ 6 := by
  unfold chk1
  rw [List.length_append, List.length_append, List.length_append]
  have h1 : (F1 S fr i).length ≤ 1 := opt_le _ _
  have h2 : (F4 S n rs i).length ≤ 1 := opt_le _ _
  have h3 : (F5 S R i).length ≤ 1 := opt_le _ _
  have h4 : (if (S i).on = true then kidsF S n i 2 ++ F3 S n i else []).length ≤ 3 := by
    split
    · rw [List.length_append]
      have h5 : (F3 S n i).length ≤ 1 := opt_le _ _
      have h6 : (kidsF S n i 2).length ≤ 2 := by
        rw [kidsF_succ, kidsF_succ]
        simp only [List.length_append]
        have h7 : (kidF S n i 0).length ≤ 1 := opt_le _ _
        have h8 : (kidF S n i 1).length ≤ 1 := opt_le _ _
        have h9 : (kidsF S n i 0).length = 0 := rfl
        omega
      omega
    · simp
  omega
theorem kidsF_le (i t : Nat) : (kidsF S n i t).length ≤ t := by
  induction t with
  | zero => simp [kidsF]
  | succ t ih => rw [kidsF_succ, List.length_append]; have : (kidF S n i t).length ≤ 1 := opt_le _ _; omega
theorem mid_le (i : Nat) : (if (S i).on = true then kidsF S n i 2 ++ F3 S n i else []).length ≤ 3 := by
  split
  · rw [List.length_append]
    have h5 : (F3 S n i).length ≤ 1 := opt_le _ _
    have h6 : (kidsF S n i 2).length ≤ 2 := by
      rw [kidsF_succ, kidsF_succ]
      simp only [List.length_append]
      have h7 : (kidF S n i 0).length ≤ 1 := opt_le _ _
      have h8 : (kidF S n i 1).length ≤ 1 := opt_le _ _
      have h9 : (kidsF S n i 0).length = 0 := rfl
      omega
    omega
  · simp
theorem chks_le (k : Nat) : (chks S n fr rs R k).length ≤ 6 * k := by
  induction k with
  | zero => simp [chks]
  | succ k ih => rw [chks_succ, List.length_append]; have := chk1_le S n fr rs R k; omega
theorem flat_le {l : List Nat} {f : Nat → List Fd} (h : ∀ x, (f x).length ≤ 1) : (l.flatMap f).length ≤ l.length := by
  induction l with
  | nil => simp
  | cons a t ih => rw [List.flatMap_cons, List.length_append, List.length_cons]; have := h a; omega
theorem flat_take {l : List Nat} {f : Nat → List Fd} {k : Nat} (h : k < l.length) : (l.take (k + 1)).flatMap f = (l.take k).flatMap f ++ f (l.getD k 0) := by
  rw [List.take_succ_eq_append_getElem h, List.flatMap_append, List.getD_eq_getElem?_getD, List.getElem?_eq_getElem h]
  simp
end
end Go.Proofs.Ytkhfofpbmnapjaa
set_option linter.unusedVariables false
namespace Go.Proofs.Ytkhfofpbmnapjaa

def Ar.sl (A : Ar) (i : Nat) : Sl := ⟨A.σ.on (i + 1), A.cnt (i + 1), A.σ.gen (i + 1), A.nd (i + 1)⟩
theorem al_on {A : Ar} (h : A.σ.Ok) (x : Nat) : Al A.sl A.σ.cap x ↔ A.σ.on x = true := by
  unfold Al Ar.sl
  constructor
  · rintro ⟨h1, h2, h3⟩
    rwa [show x - 1 + 1 = x by omega] at h3
  · intro h1
    have h2 := h.on x h1
    exact ⟨by omega, by omega, by rwa [show x - 1 + 1 = x by omega]⟩
theorem reach_rch {A : Ar} {l : List Nat} (h : A.Inv [] (hof l)) (k : Nat) (hr : A.Reach (hof l) k) : A.σ.on k = true → Rch A.sl A.σ.cap l k := by
  induction hr with
  | root i hi =>
    intro hk
    refine .root i ?_ ((al_on h.ok i).2 hk)
    unfold hof at hi
    split at hi
    · omega
    · exact List.count_pos_iff.1 hi
  | left k hk _ ih =>
    intro hk2
    have h1 := ih hk
    have h2 := h.ok.on k hk
    have h3 : kd (A.sl (k - 1)) 0 = (A.nd k).left := by unfold kd Ar.sl; rw [if_pos rfl, show k - 1 + 1 = k by omega]
    rw [← h3]
    exact .kid k 0 h1 (by decide) ((al_on h.ok _).2 (by rw [h3]; exact hk2))
  | right k hk _ ih =>
    intro hk2
    have h1 := ih hk
    have h2 := h.ok.on k hk
    have h3 : kd (A.sl (k - 1)) 1 = (A.nd k).right := by unfold kd Ar.sl; rw [if_neg (by decide), show k - 1 + 1 = k by omega]
    rw [← h3]
    exact .kid k 1 h1 (by decide) ((al_on h.ok _).2 (by rw [h3]; exact hk2))
theorem nodup_count {l : List Nat} (h : l.Nodup) (x : Nat) : l.count x = if x ∈ l then 1 else 0 := by
  by_cases e : x ∈ l
  · rw [if_pos e, List.nodup_iff_count.1 h |> fun h2 => Nat.le_antisymm (h2 x) (List.count_pos_iff.2 e)]
  · rw [if_neg e]; exact List.count_eq_zero.2 e
theorem eg_refs (A : Ar) (x : Nat) : eg A.sl A.σ.cap x = A.refs x := by
  unfold eg Ar.refs
  rw [List.range'_eq_map_range, List.map_map]
  congr 1
  refine List.map_congr_left fun k _ => ?_
  show ph 2 (A.sl k) x = A.edge (1 + k) x
  unfold ph Ar.edge Ar.sl
  rw [Nat.add_comm 1 k]
  by_cases h : A.σ.on (k + 1) = true
  · rw [if_pos h, if_pos h]; simp [List.range_succ, kd]
  · rw [if_neg h, if_neg h]
theorem wrap_fit {n : Int} (h : -9223372036854775808 ≤ n ∧ n ≤ 9223372036854775807) : IntKind.i64.wrap n = n := by rw [IntKind.wrap_i64]; omega
theorem flat_nil {α : Type} {l : List Nat} {f : Nat → List α} (h : ∀ x ∈ l, f x = []) : l.flatMap f = [] := by
  induction l with
  | nil => rfl
  | cons a t ih => rw [List.flatMap_cons, h a (by simp), ih fun x hx => h x (by simp [hx])]; rfl
theorem chk_sound {A : Ar} {l : List Nat} (h : A.Inv [] (hof l)) (ha : A.Agg) (hl : ∀ x ∈ l, x = 0 ∨ A.σ.on x = true) {R : Nat → Bool} (hR : ∀ j, j < A.σ.cap → (R j = true ↔ Rch A.sl A.σ.cap l (j + 1))) : chk A.sl A.σ.cap A.σ.free l R = [] := by
  unfold chk
  have h1 : A.σ.free.flatMap (rngF A.σ.cap) = [] := flat_nil fun x hx => by
    have := (h.ok.free x).1 hx
    unfold rngF opt
    rw [if_neg (by simp; omega)]
  have h2 : l.flatMap (rootF A.sl A.σ.cap) = [] := flat_nil fun x hx => by
    unfold rootF opt
    rw [if_neg]
    simp
    intro hx0
    rcases hl x hx with h3 | h3
    · exact absurd h3 hx0
    · exact (al_on h.ok x).2 h3
  rw [h1, h2, List.append_nil, List.append_nil]
  unfold chks
  refine flat_nil fun i hi => ?_
  rw [List.mem_range] at hi
  have hsl : (A.sl i).on = A.σ.on (i + 1) := rfl
  have hsn : (A.sl i).nd = A.nd (i + 1) := rfl
  have hsc : (A.sl i).cnt = A.cnt (i + 1) := rfl
  have hF1 : F1 A.sl A.σ.free i = [] := by
    unfold F1 opt
    rw [if_neg]
    simp
    rw [nodup_count h.ok.nodup]
    unfold wantFree
    rw [hsl]
    have hfr := h.ok.free (i + 1)
    by_cases ho : A.σ.on (i + 1) = true
    · rw [if_pos ho, if_neg (fun e => by have := (hfr.1 e).2.2; rw [ho] at this; cases this)]; rfl
    · rw [if_neg ho, if_pos (hfr.2 ⟨by omega, by omega, by simpa using ho⟩)]; rfl
  have hkid : A.σ.on (i + 1) = true → ∀ t, t < 2 → kd (A.sl i) t = 0 ∨ Al A.sl A.σ.cap (kd (A.sl i) t) := fun ho t ht => by
    have hc := h.child (i + 1) ho
    unfold kd
    rw [hsn]
    split
    · rcases hc.1 with h3 | h3
      · exact .inl h3
      · exact .inr ((al_on h.ok _).2 h3)
    · rcases hc.2 with h3 | h3
      · exact .inl h3
      · exact .inr ((al_on h.ok _).2 h3)
  have hF2 : A.σ.on (i + 1) = true → kidsF A.sl A.σ.cap i 2 = [] := fun ho => by
    unfold kidsF
    refine flat_nil fun t ht => ?_
    rw [List.mem_range] at ht
    unfold kidF opt
    rw [if_neg]
    simp
    intro h3
    rcases hkid ho t ht with h4 | h4
    · exact h4
    · exact absurd h4 h3
  have hF3 : A.σ.on (i + 1) = true → F3 A.sl A.σ.cap i = [] := fun ho => by
    have hn := congrArg Nd.size (ha.node (i + 1) ho)
    have hn2 : (A.node (A.nd (i + 1)).key (A.nd (i + 1)).val (A.nd (i + 1)).left (A.nd (i + 1)).right).size = 1 + A.sz (A.nd (i + 1)).left + A.sz (A.nd (i + 1)).right := rfl
    rw [hn2] at hn
    have hst : ∀ t, t < 2 → ∀ s : Int, (if Al A.sl A.σ.cap (kd (A.sl i) t) then IntKind.i64.wrap (s + (A.sl (kd (A.sl i) t - 1)).nd.size) else s) = IntKind.i64.wrap (s + A.sz (kd (A.sl i) t)) ∨ A.sz (kd (A.sl i) t) = 0 ∧ (if Al A.sl A.σ.cap (kd (A.sl i) t) then IntKind.i64.wrap (s + (A.sl (kd (A.sl i) t - 1)).nd.size) else s) = s := fun t ht s => by
      by_cases hal : Al A.sl A.σ.cap (kd (A.sl i) t)
      · rw [if_pos hal]
        have h5 := hal.1
        have h6 : (A.sl (kd (A.sl i) t - 1)).nd.size = A.sz (kd (A.sl i) t) := by
          unfold Ar.sz
          rw [if_neg (by omega)]
          show (A.nd (kd (A.sl i) t - 1 + 1)).size = _
          rw [show kd (A.sl i) t - 1 + 1 = kd (A.sl i) t by omega]
        exact .inl (by rw [h6])
      · rw [if_neg hal]
        rcases hkid ho t ht with h7 | h7
        · exact .inr ⟨by rw [h7]; rfl, rfl⟩
        · exact absurd h7 hal
    have hz : ∀ y, (y = 0 ∨ A.σ.on y = true) → 0 ≤ A.sz y ∧ A.sz y ≤ 2147483647 := fun y hy => by
      unfold Ar.sz
      split
      · exact ⟨Int.le_refl 0, by decide⟩
      · rcases hy with hy | hy
        · contradiction
        · have := ha.size y hy; omega
    have hc := h.child (i + 1) ho
    have hzl := hz _ hc.1
    have hzr := hz _ hc.2
    have k0 : kd (A.sl i) 0 = (A.nd (i + 1)).left := rfl
    have k1 : kd (A.sl i) 1 = (A.nd (i + 1)).right := rfl
    have e1 : szF A.sl A.σ.cap i 1 = 1 + A.sz (A.nd (i + 1)).left := by
      show (if Al A.sl A.σ.cap (kd (A.sl i) 0) then IntKind.i64.wrap (1 + (A.sl (kd (A.sl i) 0 - 1)).nd.size) else 1) = _
      rcases hst 0 (by decide) 1 with h8 | ⟨h8, h9⟩
      · rw [h8, k0]; exact wrap_fit (by omega)
      · rw [h9]; rw [k0] at h8; omega
    have e2 : szF A.sl A.σ.cap i 2 = 1 + A.sz (A.nd (i + 1)).left + A.sz (A.nd (i + 1)).right := by
      show (if Al A.sl A.σ.cap (kd (A.sl i) 1) then IntKind.i64.wrap (szF A.sl A.σ.cap i 1 + (A.sl (kd (A.sl i) 1 - 1)).nd.size) else szF A.sl A.σ.cap i 1) = _
      rcases hst 1 (by decide) (szF A.sl A.σ.cap i 1) with h8 | ⟨h8, h9⟩
      · rw [h8, k1, e1]; exact wrap_fit (by omega)
      · rw [h9, e1]; rw [k1] at h8; omega
    unfold F3 opt
    rw [if_neg]
    simp
    rw [e2, hsn]
    exact hn.symm
  have hF4 : F4 A.sl A.σ.cap l i = [] := by
    unfold F4 opt
    rw [if_neg]
    simp
    unfold wantCount
    rw [hsl, hsc]
    by_cases ho : A.σ.on (i + 1) = true
    · rw [if_pos ho, h.cnt (i + 1) ho, eg_refs]
      have : hof l (i + 1) = l.count (i + 1) := by unfold hof; rw [if_neg (by omega)]
      rw [this]
      simp
    · rw [if_neg ho, (h.off (i + 1) (by simpa using ho)).1]
  have hF5 : F5 A.sl R i = [] := by
    unfold F5 opt
    rw [if_neg]
    simp
    intro ho
    rw [hsl] at ho
    have hre := Ar.reach_all h ha 2147483648 (i + 1) ho (by have := (ha.size (i + 1) ho).1; omega)
    exact (hR i hi).2 (reach_rch h _ hre ho)
  unfold chk1
  rw [hF1, hF4, hF5]
  by_cases ho : A.σ.on (i + 1) = true
  · rw [hsl, if_pos ho, hF2 ho, hF3 ho]; rfl
  · rw [hsl, if_neg ho]; rfl
end Go.Proofs.Ytkhfofpbmnapjaa
