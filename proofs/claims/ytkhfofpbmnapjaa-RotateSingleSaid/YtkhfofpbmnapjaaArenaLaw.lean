/- An arena that the call made, with the references that the caller holds: what becomes of it. The sanity check returns true. Condition: the program's functions keep their contracts. -/
import Derived.Test.YtkhfofpbmnapjaaArenaCon
import Derived.Test.YtkhfofpbmnapjaaKitMod
import Derived.BigGuardPart
set_option linter.unusedVariables false
namespace Go.Proofs.Ytkhfofpbmnapjaa
open Go.RowKit

structure TA (I : AImpl) (B : Nat) (w0 w : World) (p : Value) (A : Ar) (rd : Int) (held : Nat → Nat) : Prop where
  has : ∃ F, I.Is w p A rd F ∧ ∀ k, F k → B ≤ k
  inv : A.Inv [] held
  agg : A.Agg
  below : Below B w0 w
  hB : B ≤ w.heap.size
section
variable {I : AImpl} {B : Nat} {w w' w0 : World} {p : Value} {A A' : Ar} {rd rd' : Int} {held held' : Nat → Nat}
theorem TA.calm (h : TA I B w0 w p A rd held) (hb : Below w.heap.size w w') : TA I B w0 w' p A rd held := by
  obtain ⟨F, h1, hF⟩ := h.has
  exact ⟨⟨F, I.below h1 hb, hF⟩, h.inv, h.agg, h.below.trans (hb.mono h.hB), Nat.le_trans h.hB hb.size⟩
theorem TA.step {F F' : Nat → Prop} (h : TA I B w0 w p A rd held) (hF : ∀ k, F k → B ≤ k) (ha : Alters F F' w w') (hs : I.Is w' p A' rd' F') (hi : A'.Inv [] held') (hg : A'.Agg) : TA I B w0 w' p A' rd' held' :=
  ⟨⟨F', hs, ha.from h.hB hF⟩, hi, hg, ha.below h.below h.hB hF, Nat.le_trans h.hB ha.size⟩
def ANew (I : AImpl) (w : World) (n : Nat) (e : Ending) (w' : World) : Prop :=
  ∃ a, e = .returned (.tuple #[.pointer (some a), .int .i64 0]) ∧ TA I w.heap.size w w' (.pointer (some a)) (Ar.init n) 0 (fun _ => 0)
theorem ta_new (I : AImpl) (n : Nat) (N : Int) (w : World) (h1 : 1 ≤ n) (h2 : n ≤ 65536) (hN : N = (n : Int)) : Calls Try.prog 24 #[.int .i64 N] w (ANew I w n) := by
  subst hN
  refine (I.new_ok n w h1 h2).mono ?_
  rintro e w1 ⟨p, F, rfl, h, hF, hb⟩
  obtain ⟨a, rfl⟩ := I.ptr h
  exact ⟨a, rfl, ⟨F, h, hF⟩, Ar.init_inv h1 h2, Ar.init_agg n, hb, hb.size⟩
def ARet (I : AImpl) (B : Nat) (w0 : World) (p : Value) (A : Ar) (rd : Int) (held : Nat → Nat) (r : Value) (e : Ending) (w' : World) : Prop :=
  e = .returned r ∧ TA I B w0 w' p A rd held
/-- the four numbers are arguments of Make -/
def Args (key val : Int) (l r : Nat) : Prop := (-9223372036854775808 ≤ key ∧ key ≤ 9223372036854775807) ∧ (-9223372036854775808 ≤ val ∧ val ≤ 9223372036854775807) ∧ l < 4294967296 ∧ r < 4294967296
theorem more_small {held : Nat → Nat} {m : Nat} (h : ∀ j, held j ≤ m) (i : Nat) : ∀ j, more held i j ≤ m + 1 := fun j => by
  unfold more
  split
  · have := h i; omega
  · have := h j; omega
theorem ta_make (h : TA I B w0 w p A rd held) (hm : ∀ j, held j ≤ 1048576) {key val : Int} {l r i : Nat} {L R : Int} {t : List Nat} (hL : L = (l : Int)) (hR : R = (r : Int)) (ha : Args key val l r) (hl : A.Idx l) (hr : A.Idx r) (hs : (A.node key val l r).size ≤ 2147483647) (hf : A.σ.free = i :: t) :
    Calls Try.prog 25 #[p, .int .i64 key, .int .i64 val, .int .u32 L, .int .u32 R] w (ARet I B w0 p (A.made i t (A.node key val l r)) rd (more held i) (.tuple #[.int .u32 (i : Int), .int .i64 0])) := by
  subst hL hR
  obtain ⟨F, h2, hF⟩ := h.has
  refine (I.make p A rd F key val l r held w h2 h.inv h.agg hm ha.1.1 ha.1.2 ha.2.1.1 ha.2.1.2 ha.2.2.1 ha.2.2.2).mono ?_
  rintro e w1 ⟨F', hal, _, _, h3⟩
  obtain ⟨rfl, h4⟩ := h3 ⟨hl, hr, hs⟩ i t hf
  exact ⟨rfl, h.step hF hal h4 (h.inv.made hf hl hr) (h.agg.made h.inv hf hl hr hs)⟩
theorem ta_make_bad (h : TA I B w0 w p A rd held) (hm : ∀ j, held j ≤ 1048576) {key val : Int} {l r : Nat} {L R : Int} (hL : L = (l : Int)) (hR : R = (r : Int)) (ha : Args key val l r) (hb : ¬ (A.Idx l ∧ A.Idx r ∧ (A.node key val l r).size ≤ 2147483647)) :
    Calls Try.prog 25 #[p, .int .i64 key, .int .i64 val, .int .u32 L, .int .u32 R] w (ARet I B w0 p A rd held (.tuple #[.int .u32 0, .int .i64 1])) := by
  subst hL hR
  obtain ⟨F, h2, hF⟩ := h.has
  refine (I.make p A rd F key val l r held w h2 h.inv h.agg hm ha.1.1 ha.1.2 ha.2.1.1 ha.2.1.2 ha.2.2.1 ha.2.2.2).mono ?_
  rintro e w1 ⟨F', hal, h3, _, _⟩
  obtain ⟨rfl, h4⟩ := h3 hb
  exact ⟨rfl, h.step hF hal h4 h.inv h.agg⟩
theorem ta_node (h : TA I B w0 w p A rd held) {i : Nat} {N : Int} (hN : N = (i : Int)) (h0 : 0 ≤ rd) (h1 : rd < 4611686018427387904) (hi : A.σ.on i = true) :
    Calls Try.prog 28 #[p, .int .u32 N] w (ARet I B w0 p A (rd + 1) held (.tuple #[.agg (ndV (A.nd i)).toArray, .bool true])) := by
  subst hN
  obtain ⟨F, h2, hF⟩ := h.has
  have hon := h.inv.ok.on i hi
  have hcap := h.inv.ok.cap2
  refine (I.node p A rd F i w h2 h0 h1 (by omega)).mono ?_
  rintro e w1 ⟨F', hal, _, h3⟩
  obtain ⟨rfl, h4⟩ := h3 hi
  exact ⟨rfl, h.step hF hal h4 h.inv h.agg⟩
theorem ta_free (h : TA I B w0 w p A rd held) : Calls Try.prog 17 #[p] w (ARet I B w0 p A rd held (.int .i64 (A.σ.free.length : Int))) := by
  obtain ⟨F, h2, hF⟩ := h.has
  exact (I.freeN p A rd F w h2).mono fun e w1 ⟨h3, q, h4⟩ => ⟨h3, by subst h4; exact h.calm (below_drewN (Below.refl _ _) _)⟩
theorem ta_make_full (h : TA I B w0 w p A rd held) (hm : ∀ j, held j ≤ 1048576) {key val : Int} {l r : Nat} {L R : Int} (hL : L = (l : Int)) (hR : R = (r : Int)) (ha : Args key val l r) (hl : A.Idx l) (hr : A.Idx r) (hs : (A.node key val l r).size ≤ 2147483647) (hf : A.σ.free = []) :
    Calls Try.prog 25 #[p, .int .i64 key, .int .i64 val, .int .u32 L, .int .u32 R] w (ARet I B w0 p A rd held (.tuple #[.int .u32 0, .int .i64 2])) := by
  subst hL hR
  obtain ⟨F, h2, hF⟩ := h.has
  refine (I.make p A rd F key val l r held w h2 h.inv h.agg hm ha.1.1 ha.1.2 ha.2.1.1 ha.2.1.2 ha.2.2.1 ha.2.2.2).mono ?_
  rintro e w1 ⟨F', hal, _, h3, _⟩
  obtain ⟨rfl, h4⟩ := h3 ⟨hl, hr, hs⟩ hf
  exact ⟨rfl, h.step hF hal h4 h.inv h.agg⟩
theorem ta_node_no (h : TA I B w0 w p A rd held) {i : Nat} {N : Int} (hN : N = (i : Int)) (h0 : 0 ≤ rd) (h1 : rd < 4611686018427387904) (hb : i < 4294967296) (hi : A.σ.on i = false) :
    Calls Try.prog 28 #[p, .int .u32 N] w (ARet I B w0 p A rd held (.tuple #[.agg (ndV Nd.zero).toArray, .bool false])) := by
  subst hN
  obtain ⟨F, h2, hF⟩ := h.has
  refine (I.node p A rd F i w h2 h0 h1 hb).mono ?_
  rintro e w1 ⟨F', hal, h3, _⟩
  obtain ⟨rfl, h4⟩ := h3 hi
  exact ⟨rfl, h.step hF hal h4 h.inv h.agg⟩
/-- a held reference is given back -/
theorem ta_release (h : TA I B w0 w p A rd held) {i : Nat} {N : Int} (hN : N = (i : Int)) (hi : 0 < held i) :
    Calls Try.prog 47 #[p, .int .u32 N] w (ARet I B w0 p (A.gone i) rd (less held i) (.tuple #[.int .i64 (A.freed i : Int), .int .i64 0])) := by
  subst hN
  obtain ⟨F, h2, hF⟩ := h.has
  have hon := h.inv.held i hi
  have hle := h.inv.ok.on i hon
  have hcap := h.inv.ok.cap2
  have hg := h.inv.give hi
  have hlen := h.inv.ok.len
  refine (I.release p A rd F i (less held i) w h2 (by omega) (fun _ => hg)).mono ?_
  rintro e w1 ⟨F', hal, _, h3⟩
  obtain ⟨rfl, h4⟩ := h3 (.inr hon)
  refine ⟨rfl, h.step hF hal h4 ?_ ?_⟩
  · exact (Ar.run_ok A.fuel A [i] (less held i) hg (by unfold Ar.fuel; simp only [List.length_cons, List.length_nil]; omega)).1
  · exact Ar.Agg.run A.fuel A [i] (less held i) hg h.agg
theorem ta_release_bad (h : TA I B w0 w p A rd held) {i : Nat} {N : Int} (hN : N = (i : Int)) (hi : i < 4294967296) (hb : ¬ A.Idx i) :
    Calls Try.prog 47 #[p, .int .u32 N] w (ARet I B w0 p A rd held (.tuple #[.int .i64 0, .int .i64 3])) := by
  subst hN
  obtain ⟨F, h2, hF⟩ := h.has
  refine (I.release p A rd F i held w h2 hi (fun h => absurd h hb)).mono ?_
  rintro e w1 ⟨F', hal, h3, _⟩
  obtain ⟨rfl, h4⟩ := h3 hb
  exact ⟨rfl, h.step hF hal h4 h.inv h.agg⟩
end
end Go.Proofs.Ytkhfofpbmnapjaa
