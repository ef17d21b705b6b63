/- The findings of a dump, as plain data; no more than six for a slot. No program is spoken of. -/
import Derived.Test.YticfihklfnjeoaaDumpR
set_option linter.unusedVariables false
namespace Go.Proofs.Yticfihklfnjeoaa

structure Fd where
  kind : Int
  slot : Nat
  want : Int
  have_ : Int
def fdV (f : Fd) : List Value := [.int .i64 f.kind, .int .u32 (f.slot : Int), .int .i64 f.want, .int .i64 f.have_]
def fdsV (l : List Fd) : List Value := l.flatMap fdV
theorem fdsV_len (l : List Fd) : (fdsV l).length = l.length * 4 := by
  unfold fdsV
  induction l with
  | nil => rfl
  | cons f t ih => rw [List.flatMap_cons, List.length_append, ih, List.length_cons]; simp [fdV]; omega
theorem fdsV_app (l m : List Fd) : fdsV (l ++ m) = fdsV l ++ fdsV m := by simp [fdsV]
theorem fdsV_snoc (l : List Fd) (f : Fd) : fdsV (l ++ [f]) = fdsV l ++ fdV f := by simp [fdsV]
def opt (b : Bool) (f : Fd) : List Fd := if b = true then [f] else []
theorem opt_le (b : Bool) (f : Fd) : (opt b f).length ≤ 1 := by unfold opt; split <;> simp
section
variable (S : Nat → Sl) (n : Nat) (fr rs : List Nat) (R : Nat → Bool)
def wantFree (i : Nat) : Int := if (S i).on = true then 0 else 1
def F1 (i : Nat) : List Fd := opt (((fr.count (i + 1) : Nat) : Int) != wantFree S i) ⟨1, i + 1, wantFree S i, ((fr.count (i + 1) : Nat) : Int)⟩
def kidF (i t : Nat) : List Fd := opt (!decide (Al S n (kd (S i) t)) && kd (S i) t != 0) ⟨2, i + 1, 0, ((kd (S i) t : Nat) : Int)⟩
/-- the size by the first t children -/
def szF (i : Nat) : Nat → Int
  | 0 => 1
  | t + 1 => if Al S n (kd (S i) t) then IntKind.i64.wrap (szF i t + (S (kd (S i) t - 1)).nd.size) else szF i t
def kidsF (i t : Nat) : List Fd := (List.range t).flatMap (kidF S n i)
def F3 (i : Nat) : List Fd := opt (szF S n i 2 != (S i).nd.size) ⟨3, i + 1, szF S n i 2, (S i).nd.size⟩
def wantCount (i : Nat) : Int := if (S i).on = true then ((eg S n (i + 1) + rs.count (i + 1) : Nat) : Int) else 0
def F4 (i : Nat) : List Fd := opt (wantCount S n rs i != (S i).cnt) ⟨4, i + 1, wantCount S n rs i, (S i).cnt⟩
def F5 (i : Nat) : List Fd := opt ((S i).on && !R i) ⟨5, i + 1, 0, 0⟩
/-- the findings of slot i + 1 -/
def chk1 (i : Nat) : List Fd := F1 S fr i ++ ((if (S i).on = true then kidsF S n i 2 ++ F3 S n i else []) ++ (F4 S n rs i ++ F5 S R i))
def chks (k : Nat) : List Fd := (List.range k).flatMap (chk1 S n fr rs R)
def rngF (x : Nat) : List Fd := opt (decide (x < 1) || decide (n < x)) ⟨6, x, 0, 0⟩
def rootF (x : Nat) : List Fd := opt (x != 0 && !decide (Al S n x)) ⟨7, x, 0, 0⟩
def chk : List Fd := chks S n fr rs R n ++ (fr.flatMap (rngF n) ++ rs.flatMap (rootF S n))
theorem kidsF_succ (i t : Nat) : kidsF S n i (t + 1) = kidsF S n i t ++ kidF S n i t := by simp [kidsF, List.range_succ]
theorem chks_succ (k : Nat) : chks S n fr rs R (k + 1) = chks S n fr rs R k ++ chk1 S n fr rs R k := by simp [chks, List.range_succ]
theorem chk1_le (i : Nat) : (chk1 S n fr rs R i).length ≤ 6 := by
  unfold chk1
  rw [List.length_append, List.length_append, List.length_append]
  have h1 : (F1 S fr i).length ≤ 1 := opt_le _ _
  have h2 : (F4 S n rs i).length ≤ 1 := opt_le _ _
  have h3 : (F5 S R i).length ≤ 1 := opt_le _ _
  have h4 : (if (S i).on = true then kidsF S n i 2 ++ F3 S n i else []).length ≤ 3 := by
    split
    · rw [List.length_append]
      have h5 : (F3 S n i).length ≤ 1 := opt_le _ _
      have h6 : (kidsF S n i 2).length ≤ 2 := by
        rw [kidsF_succ, kidsF_succ]
        simp only [List.length_append]
        have h7 : (kidF S n i 0).length ≤ 1 := opt_le _ _
        have h8 : (kidF S n i 1).length ≤ 1 := opt_le _ _
        have h9 : (kidsF S n i 0).length = 0 := rfl
        omega
      omega
    · simp
  omega
theorem kidsF_le (i t : Nat) : (kidsF S n i t).length ≤ t := by
  induction t with
  | zero => simp [kidsF]
  | succ t ih => rw [kidsF_succ, List.length_append]; have : (kidF S n i t).length ≤ 1 := opt_le _ _; omega
theorem mid_le (i : Nat) : (if (S i).on = true then kidsF S n i 2 ++ F3 S n i else []).length ≤ 3 := by
  split
  · rw [List.length_append]
    have h5 : (F3 S n i).length ≤ 1 := opt_le _ _
    have h6 : (kidsF S n i 2).length ≤ 2 := by
      rw [kidsF_succ, kidsF_succ]
      simp only [List.length_append]
      have h7 : (kidF S n i 0).length ≤ 1 := opt_le _ _
      have h8 : (kidF S n i 1).length ≤ 1 := opt_le _ _
      have h9 : (kidsF S n i 0).length = 0 := rfl
      omega
    omega
  · simp
theorem chks_le (k : Nat) : (chks S n fr rs R k).length ≤ 6 * k := by
  induction k with
  | zero => simp [chks]
  | succ k ih => rw [chks_succ, List.length_append]; have := chk1_le S n fr rs R k; omega
theorem flat_le {l : List Nat} {f : Nat → List Fd} (h : ∀ x, (f x).length ≤ 1) : (l.flatMap f).length ≤ l.length := by
  induction l with
  | nil => simp
  | cons a t ih => rw [List.flatMap_cons, List.length_append, List.length_cons]; have := h a; omega
theorem flat_take {l : List Nat} {f : Nat → List Fd} {k : Nat} (h : k < l.length) : (l.take (k + 1)).flatMap f = (l.take k).flatMap f ++ f (l.getD k 0) := by
  rw [List.take_succ_eq_append_getElem h, List.flatMap_append, List.getD_eq_getElem?_getD, List.getElem?_eq_getElem h]
  simp
end
end Go.Proofs.Yticfihklfnjeoaa
