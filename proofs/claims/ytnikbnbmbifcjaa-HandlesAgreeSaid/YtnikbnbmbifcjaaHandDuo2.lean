/- The calls of a table of handles and of the reference's, beside each other; Same of two rows of the same numbers. -/
import Derived.Test.YtnikbnbmbifcjaaHandDuo
import Derived.Deep.QuietTactic
set_option linter.unusedVariables false
namespace Go.Proofs.Ytnikbnbmbifcjaa
open Go.RowKit
section
variable {I : HImpl} {B q : Nat} {w w' w0 : World} {p x : Value} {σ τ : St} {v u : Nat → Int} {r : RL} {bx : Array Value} {l : List Int} {G : Nat → Prop}
/-- returned e, the table's state is σ', its values v' -/
def DProg (I : HImpl) (B q : Nat) (w0 : World) (p : Value) (σ' : St) (v' : Nat → Int) (τ : St) (u : Nat → Int) (r : RL) (bx : Array Value) (x : Value) (l : List Int) (G : Nat → Prop) (ret : Value) (e : Ending) (w' : World) : Prop :=
  e = .returned ret ∧ Duo I B q w0 w' p σ' v' τ u r bx x l G
theorem duo_open (h : Duo I B q w0 w p σ v τ u r bx x l G) {i : Nat} {t : List Nat} {y : Int} (hf : σ.free = i :: t) (h0 : 0 ≤ y) (h1 : y < 4294967296) :
    Calls Try.prog 12 #[p, .int .u32 y] w (DProg I B q w0 p (σ.take i t) (upd v i y) τ u r bx x l G (.tuple #[.int .u64 ((σ.take i t).hd i), .int .i64 0])) := by
  obtain ⟨F, h2, hF⟩ := h.has
  refine (I.opens p σ v F y w h2 h0 h1).mono ?_
  rintro e w1 ⟨F', ha, _, h3⟩
  obtain ⟨rfl, h4⟩ := h3 i t hf
  exact ⟨rfl, h.step hF ha h4⟩
theorem duo_full (h : Duo I B q w0 w p σ v τ u r bx x l G) {y : Int} (hf : σ.free = []) (h0 : 0 ≤ y) (h1 : y < 4294967296) :
    Calls Try.prog 12 #[p, .int .u32 y] w (DProg I B q w0 p σ v τ u r bx x l G (.tuple #[.int .u64 0, .int .i64 2])) := by
  obtain ⟨F, h2, hF⟩ := h.has
  refine (I.opens p σ v F y w h2 h0 h1).mono ?_
  rintro e w1 ⟨F', ha, h3, _⟩
  obtain ⟨rfl, h4⟩ := h3 hf
  exact ⟨rfl, h.step hF ha h4⟩
/-- what Lookup and Close return -/
def lookV (σ : St) (v : Nat → Int) (n : Int) : Value × Value := if σ.ent n = 0 then (.int .u32 0, .int .i64 5) else (.int .u32 (v (σ.ent n)), .int .i64 0)
theorem duo_lookup (h : Duo I B q w0 w p σ v τ u r bx x l G) {n : Int} (h0 : 0 ≤ n) (h1 : n < 18446744073709551616) :
    Calls Try.prog 15 #[p, .int .u64 n] w (DProg I B q w0 p σ v τ u r bx x l G (.tuple #[(lookV σ v n).1, (lookV σ v n).2])) := by
  obtain ⟨F, h2, hF⟩ := h.has
  refine (I.lookup p σ v F n w h2 h0 h1).mono ?_
  rintro e w1 ⟨rfl, hb⟩
  refine ⟨?_, h.calm hb⟩
  unfold lookV
  split <;> rfl
theorem duo_replace (h : Duo I B q w0 w p σ v τ u r bx x l G) {n y : Int} (h0 : 0 ≤ n) (h1 : n < 18446744073709551616) (h3 : 0 ≤ y) (h4 : y < 4294967296) :
    Calls Try.prog 17 #[p, .int .u64 n, .int .u32 y] w (DProg I B q w0 p σ (if σ.ent n = 0 then v else upd v (σ.ent n) y) τ u r bx x l G (.int .i64 (if σ.ent n = 0 then 5 else 0))) := by
  obtain ⟨F, h2, hF⟩ := h.has
  refine (I.replace p σ v F n y w h2 h0 h1 h3 h4).mono ?_
  rintro e w1 ⟨F', ha, h5, h6⟩
  by_cases he : σ.ent n = 0
  · obtain ⟨rfl, h7⟩ := h5 he
    exact ⟨by rw [if_pos he], by rw [if_pos he]; exact h.step hF ha h7⟩
  · obtain ⟨rfl, h7⟩ := h6 he
    exact ⟨by rw [if_neg he], by rw [if_neg he]; exact h.step hF ha h7⟩
theorem duo_close (h : Duo I B q w0 w p σ v τ u r bx x l G) {n : Int} (h0 : 0 ≤ n) (h1 : n < 18446744073709551616) :
    Calls Try.prog 19 #[p, .int .u64 n] w (DProg I B q w0 p (if σ.ent n = 0 then σ else σ.put (σ.ent n)) v τ u r bx x l G (.tuple #[(lookV σ v n).1, (lookV σ v n).2])) := by
  obtain ⟨F, h2, hF⟩ := h.has
  refine (I.close p σ v F n w h2 h0 h1).mono ?_
  rintro e w1 ⟨F', ha, h5, h6⟩
  by_cases he : σ.ent n = 0
  · obtain ⟨rfl, h7⟩ := h5 he
    exact ⟨by unfold lookV; rw [if_pos he], by rw [if_pos he]; exact h.step hF ha h7⟩
  · obtain ⟨rfl, h7⟩ := h6 he
    exact ⟨by unfold lookV; rw [if_neg he], by rw [if_neg he]; exact h.step hF ha h7⟩
theorem duo_len (h : Duo I B q w0 w p σ v τ u r bx x l G) : Calls Try.prog 11 #[p] w (Calm w (.int .i64 (σ.opened.length : Int))) := by
  obtain ⟨F, h2, hF⟩ := h.has
  exact I.len p σ v F w h2
theorem duo_handles (h : Duo I B q w0 w p σ v τ u r bx x l G) : Calls Try.prog 24 #[p] w (THandles w σ) := by
  obtain ⟨F, h2, hF⟩ := h.has
  exact I.handles p σ v F w h2
theorem Duo.gl' (h : Duo I B q w0 w p σ v τ u r bx x l G) : ∀ k, (G k ∧ k ≠ q ∧ x.ownBlock ≠ some k) → k < w.heap.size := fun k hk => h.gl k hk.1
/-- returned a state of the reference and what else, the reference's state is τ', its values u' -/
def DRef (I : HImpl) (B q : Nat) (w0 w : World) (p : Value) (σ : St) (v : Nat → Int) (τ' : St) (u' : Nat → Int) (bx : Array Value) (x : Value) (l : List Int) (G : Nat → Prop) (ret : Value → Value) (e : Ending) (w' : World) : Prop :=
  ∃ r', e = .returned (ret (.agg (refT τ' r'))) ∧ Duo I B q w0 w' p σ v τ' u' r' bx x l (fun k => (G k ∨ w.heap.size ≤ k) ∧ k < w'.heap.size)
theorem Duo.same (h : Duo I B q w0 w p σ v τ u r bx x l G) (hb : Below w.heap.size w w') : Duo I B q w0 w' p σ v τ u r bx x l (fun k => (G k ∨ w.heap.size ≤ k) ∧ k < w'.heap.size) :=
  h.refd ((h.ref.below hb).keep (fun _ _ => rfl) fun k hk => .inl hk) hb
theorem duo_ropen (h : Duo I B q w0 w p σ v τ u r bx x l G) {i : Nat} {t : List Nat} (y : Int) (hf : τ.free = i :: t) :
    Calls Try.prog 21 #[.agg (refT τ r), .int .u32 y] w (DRef I B q w0 w p σ v (τ.take i t) (upd u i y) bx x l G (fun b => .tuple #[b, .int .u64 ((τ.take i t).hd i), .int .i64 0])) := by
  have him := (h.ref.ok.free i).1 (by rw [hf]; simp)
  obtain ⟨j, rfl⟩ : ∃ j, i = j + 1 := ⟨i - 1, by omega⟩
  refine (rt_open h.ref y j t hf h.size h.gl').mono ?_
  rintro e w1 ⟨r', rfl, hr, hb⟩
  exact ⟨r', rfl, h.refd hr hb⟩
theorem duo_rfull (h : Duo I B q w0 w p σ v τ u r bx x l G) (y : Int) (hf : τ.free = []) :
    Calls Try.prog 21 #[.agg (refT τ r), .int .u32 y] w (DRef I B q w0 w p σ v τ u bx x l G (fun b => .tuple #[b, .int .u64 0, .int .i64 2])) := by
  refine (rt_open_full h.ref y hf).mono ?_
  rintro e w1 ⟨rfl, hb⟩
  exact ⟨r, rfl, h.same hb⟩
theorem duo_rlookup (h : Duo I B q w0 w p σ v τ u r bx x l G) {n : Int} (h0 : 0 ≤ n) (h1 : n < 18446744073709551616) :
    Calls Try.prog 16 #[.agg (refT τ r), .int .u64 n] w (DProg I B q w0 p σ v τ u r bx x l G (.tuple #[(lookV τ u n).1, (lookV τ u n).2])) := by
  refine (rt_lookup h.ref n h0 h1).mono ?_
  rintro e w1 ⟨rfl, hb⟩
  refine ⟨?_, h.calm hb⟩
  unfold lookV
  split <;> rfl
theorem duo_rreplace (h : Duo I B q w0 w p σ v τ u r bx x l G) {n y : Int} (h0 : 0 ≤ n) (h1 : n < 18446744073709551616) :
    Calls Try.prog 18 #[.agg (refT τ r), .int .u64 n, .int .u32 y] w (DRef I B q w0 w p σ v τ (if τ.ent n = 0 then u else upd u (τ.ent n) y) bx x l G (fun b => .tuple #[b, .int .i64 (if τ.ent n = 0 then 5 else 0)])) := by
  by_cases he : τ.ent n = 0
  · refine (rt_replace_bad h.ref n y h0 h1 he).mono ?_
    rintro e w1 ⟨rfl, hb⟩
    exact ⟨r, by simp only [if_pos he], by rw [if_pos he]; exact h.same hb⟩
  · refine (rt_replace h.ref n y h0 h1 he h.size).mono ?_
    rintro e w1 ⟨r', rfl, hr, hb⟩
    exact ⟨r', by simp only [if_neg he], by rw [if_neg he]; exact h.refd hr hb⟩
theorem duo_rclose (h : Duo I B q w0 w p σ v τ u r bx x l G) {n : Int} (h0 : 0 ≤ n) (h1 : n < 18446744073709551616) :
    Calls Try.prog 20 #[.agg (refT τ r), .int .u64 n] w (DRef I B q w0 w p σ v (if τ.ent n = 0 then τ else τ.put (τ.ent n)) u bx x l G (fun b => .tuple #[b, (lookV τ u n).1, (lookV τ u n).2])) := by
  by_cases he : τ.ent n = 0
  · refine (rt_close_bad h.ref n h0 h1 he).mono ?_
    rintro e w1 ⟨rfl, hb⟩
    exact ⟨r, by unfold lookV; simp only [if_pos he], by rw [if_pos he]; exact h.same hb⟩
  · refine (rt_close h.ref n h0 h1 he h.size h.gl').mono ?_
    rintro e w1 ⟨r', rfl, hr, hb⟩
    exact ⟨r', by unfold lookV; simp only [if_neg he], by rw [if_neg he]; exact h.refd hr hb⟩
theorem duo_rhandles (h : Duo I B q w0 w p σ v τ u r bx x l G) : Calls Try.prog 22 #[.agg (refT τ r)] w (THandles w τ) := rt_handles h.ref
end
set_option maxHeartbeats 400000 in
theorem same_rows64 {B B' : Nat} {a a' : Option Addr} {c c' : Nat} (l : List Int) (w : World) (hl : (l.length : Int) ≤ 65536) (h : w.ownsRow B 29 1 (.slice a l.length c) l.length (u64s l)) (h' : w.ownsRow B' 29 1 (.slice a' l.length c') l.length (u64s l)) :
    Calls Try.prog 23 #[.slice a l.length c, .slice a' l.length c'] w (Calm w (.bool true)) := by
  have HH := Lib.hid h
  have HH' := Lib.hid h'
  clear h h'
  obtain ⟨n, hn⟩ : ∃ n, n = l.length := ⟨_, rfl⟩
  rw [← hn] at hl ⊢
  have HN := Lib.hid hn
  clear hn
  go_enter Try.func23, Try.ntmps23
  go_wp2
  go_loopw [5] (fun i wr => ∃ k : Nat, k ≤ n ∧ i = .int .i64 k ∧ ∃ q, wr = w.drewN q) (fun i _ => n - (intOf i).toNat)
  case atStart => exact ⟨0, Nat.zero_le _, rfl, 0, rfl⟩
  case round =>
    obtain ⟨k, hk, rfl, q, rfl⟩ := hrel
    by_cases hlt : k < n
    · have hk2 : k < l.length := by rw [← HN.out]; exact hlt
      obtain ⟨b, rfl, hbb, hc⟩ := row_cell HH.out hk2
      obtain ⟨b', rfl, hbb', hc'⟩ := row_cell HH'.out hk2
      rw [u64s_get hk2] at hc hc'
      have hlt' : (k : Int) < (n : Int) := by omega
      have hk0 : (0 : Int) ≤ (k : Int) := by omega
      generalize (l.getD k 0) = x at hc hc'
      have hne : (x != x) = false := by simp
      clear hk2
      go_wp2
      go_quiet (fail)
      go_wp2
      exact ⟨⟨k + 1, by omega, by go_num, _, rfl⟩, by simp [intOf]; omega⟩
    · obtain rfl : k = n := by omega
      go_wp2
      go_ret
      exact ⟨rfl, below_drewN (Below.refl _ _) q⟩
end Go.Proofs.Ytnikbnbmbifcjaa
