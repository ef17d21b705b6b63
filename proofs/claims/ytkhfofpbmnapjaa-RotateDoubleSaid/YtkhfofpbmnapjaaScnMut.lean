/- A scene whose arena a call alters; consistency of its dump; lists of references. -/
import Derived.Test.YtkhfofpbmnapjaaScene
import Derived.Test.YtkhfofpbmnapjaaSoundW
set_option linter.unusedVariables false
set_option linter.unusedSimpArgs false
namespace Go.Proofs.Ytkhfofpbmnapjaa
open Go.RowKit
theorem MR.stepA {I : AImpl} {B : Nat} {w0 w w' : World} {p : Value} {A A' : Ar} {rd rd' : Int} {G F F' : Nat → Prop} (h : MR I B w0 w p A rd G) (hF : ∀ k, F k → B ≤ k) (hG : ∀ k, G k → k < w.heap.size ∧ ¬ F k) (hal : Alters F F' w w') (hI : I.Is w' p A' rd' F') : MR I B w0 w' p A' rd' G ∧ Keeps G w w' :=
  ⟨⟨⟨F', hI, hal.from h.hB hF, hal.apart hG⟩, hal.below h.below h.hB hF, Nat.le_trans h.hB hal.size⟩, fun k hk => hal.block k (hG k hk).1 (hG k hk).2⟩
/-- a call that alters the arena: what it returns and leaves -/
def Mut (I : AImpl) (p : Value) (F : Nat → Prop) (Q : Ending → Ar → Int → Prop) (w : World) (e : Ending) (w' : World) : Prop :=
  ∃ F' A' rd', Alters F F' w w' ∧ I.Is w' p A' rd' F' ∧ Q e A' rd'
section
variable {I : AImpl} {B : Nat} {w0 w w' : World} {p : Value} {A : Ar} {rd rd' : Int} {rs : List Row} {bs : List (Nat × Obj)}
theorem Scn.stepA {A' : Ar} (h : Scn I B w0 w p A rd rs bs) (hm : MR I B w0 w' p A' rd' (SG rs bs)) (hk : Keeps (SG rs bs) w w') : Scn I B w0 w' p A' rd' rs bs :=
  ⟨hm, fun r hr => row_keep (h.rows r hr) fun k hk' => hk k (.inl ⟨r, hr, hk'⟩), fun b hb => ⟨(h.boxes b hb).1, (hk b.1 (.inr ⟨b, hb, rfl⟩)).trans (h.boxes b hb).2⟩, h.rr, h.bb, h.rb⟩
theorem Scn.mut {f : FuncId} {args : Array Value} {Q : Ending → Ar → Int → Prop} (h : Scn I B w0 w p A rd rs bs) (hc : ∀ F, I.Is w p A rd F → Calls Try.prog f args w (Mut I p F Q w)) :
    Calls Try.prog f args w fun e w' => ∃ A' rd', Q e A' rd' ∧ Scn I B w0 w' p A' rd' rs bs := by
  obtain ⟨F, f1, f2, f3⟩ := h.mr.has
  refine (hc F f1).mono ?_
  rintro e w1 ⟨F', A', rd', hal, hI, hq⟩
  have hst := h.mr.stepA f2 f3 hal hI
  exact ⟨A', rd', hq, h.stepA hst.1 hst.2⟩
theorem Scn.free (h : Scn I B w0 w p A rd rs bs) : Calls Try.prog 17 #[p] w fun e w' => e = .returned (.int .i64 (A.σ.free.length : Int)) ∧ Scn I B w0 w' p A rd rs bs := by
  obtain ⟨F, f1, f2, f3⟩ := h.mr.has
  refine (I.freeN p A rd F w f1).mono ?_
  rintro e w1 ⟨h3, q, h4⟩
  exact ⟨h3, by subst h4; exact h.calm (below_drewN (Below.refl _ _) _)⟩
theorem Scn.sound (hchk : CheckSpec) (h : Scn I B w0 w p A rd rs bs) {l : List Nat} {ra : Option Addr} {L rc : Nat} (hv : A.Inv [] (hof l)) (hA : A.Agg) (hr : U32At w ra l) (hL : l.length = L) (hl : L ≤ 1000000) (hi : ∀ x ∈ l, x = 0 ∨ A.σ.on x = true) :
    Calls Try.prog 19 #[p, .slice ra L rc] w (Calm w (.bool true)) := by
  subst hL
  obtain ⟨F, f1, _⟩ := h.mr.has
  exact sound_any hchk I f1 hv hA hr hl hi
end
/-- a dump's rows, later -/
theorem Scn.slots_of {I : AImpl} {B : Nat} {w0 w : World} {p : Value} {A A0 : Ar} {rd : Int} {rs : List Row} {bs : List (Nat × Obj)} {st : List Nat} {held : Nat → Nat} {a : Option Addr} {c N : Nat} (h : Scn I B w0 w p A rd rs bs) (hv : A0.Inv st held) (hN : A0.σ.cap = N) (hm : (⟨75, 11, .slice a N c, N, slotsV A0⟩ : Row) ∈ rs) : SlotsAt w a N A0.sl := by
  subst hN
  exact slots_at hv (h.rows _ hm)
theorem Scn.dumped {I : AImpl} {B : Nat} {w0 w : World} {p : Value} {A A0 : Ar} {rd : Int} {u : Row} {rs : List Row} {bs : List (Nat × Obj)} {st : List Nat} {held : Nat → Nat} {a : Option Addr} {c N : Nat} (h : Scn I B w0 w p A rd (u :: ⟨75, 11, .slice a N c, N, slotsV A0⟩ :: rs) bs) (hv : A0.Inv st held) (hN : A0.σ.cap = N) : SlotsAt w a N A0.sl := h.slots_of (c := c) hv hN (List.Mem.tail _ (List.Mem.head _))
theorem made_ens {w w' : World} {l : List En} {e : Ending} (h : MadeEns w l e w') (hw : ∀ e ∈ l, i64R e.key ∧ i64R e.val) {N : Nat} (hN : l.length = N) : ∃ a c, e = .returned (.slice a N c) ∧ EnsAt w' a l ∧ Below w.heap.size w w' := by
  subst hN
  obtain ⟨a, c, h1, h2, h3⟩ := h
  exact ⟨a, c, h1, ens_at h2 hw, h3⟩
/-! ### lists of references -/
theorem hof_nil : hof [] = fun _ => 0 := by
  funext i
  unfold hof
  split <;> simp
theorem hof_one {i : Nat} (hi : i ≠ 0) : pls (fun _ => 0) i = hof [i] := by
  unfold pls
  rw [if_neg hi, ← hof_nil, ← hof_more [] hi]
  rfl
theorem hof_two (i : Nat) {j : Nat} (hj : j ≠ 0) : more (hof [i]) j = hof [i, j] := (hof_more [i] hj).symm
theorem hof_le (l : List Nat) (j : Nat) : hof l j ≤ l.length := by
  unfold hof
  split
  · exact Nat.zero_le _
  · exact List.count_le_length
/-- a slice of indexes that is built -/
theorem u2_at (w : World) (t : TypeId) (x y : Nat) (hx : x < 4294967296) (hy : y < 4294967296) :
    U32At (w.alloc (.cells #[.int .u32 (x : Int), .int .u32 (y : Int)] t)) (some ⟨w.heap.size, 0, none⟩) [x, y] := by
  have hr := heap_alloc_new w (.cells #[.int .u32 (x : Int), .int .u32 (y : Int)] t)
  refine ⟨fun j hj => ⟨w.heap.size, 0, rfl, by simp, ?_⟩, fun z hz => ?_⟩
  · match j, hj with
    | 0, _ => rw [cell_of_row _ _ _ _ _ _ hr]; rfl
    | 1, _ => rw [cell_of_row _ _ _ _ _ _ hr]; rfl
    | j + 2, hj => exact absurd hj (by simp)
  · simp at hz
    rcases hz with rfl | rfl
    · exact hx
    · exact hy
theorem u3_at (w : World) (t : TypeId) (x y z : Nat) (hx : x < 4294967296) (hy : y < 4294967296) (hz : z < 4294967296) :
    U32At (w.alloc (.cells #[.int .u32 (x : Int), .int .u32 (y : Int), .int .u32 (z : Int)] t)) (some ⟨w.heap.size, 0, none⟩) [x, y, z] := by
  have hr := heap_alloc_new w (.cells #[.int .u32 (x : Int), .int .u32 (y : Int), .int .u32 (z : Int)] t)
  refine ⟨fun j hj => ⟨w.heap.size, 0, rfl, by simp, ?_⟩, fun u hu => ?_⟩
  · match j, hj with
    | 0, _ => rw [cell_of_row _ _ _ _ _ _ hr]; rfl
    | 1, _ => rw [cell_of_row _ _ _ _ _ _ hr]; rfl
    | 2, _ => rw [cell_of_row _ _ _ _ _ _ hr]; rfl
    | j + 3, hj => exact absurd hj (by simp)
  · simp at hu
    rcases hu with rfl | rfl | rfl
    · exact hx
    · exact hy
    · exact hz
end Go.Proofs.Ytkhfofpbmnapjaa
