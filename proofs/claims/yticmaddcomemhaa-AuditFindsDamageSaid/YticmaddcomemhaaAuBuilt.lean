/- What the statements' build leaves, stated, not proved here; the dump of an arena, read in every later world. -/
import Derived.Test.YticmaddcomemhaaAuPlay1
import Derived.Test.YticmaddcomemhaaSlotsAt
import Derived.Test.YticmaddcomemhaaChkS
import Derived.Test.YticmaddcomemhaaKitMod
set_option linter.unusedVariables false
namespace Go.Proofs.Yticmaddcomemhaa
open Go.RowKit
def TrueRes6 (w : World) (e : Ending) (w' : World) : Prop := e = .returned (.bool true) ∧ Below w.heap.size w w'
structure Built (n : Nat) (w : World) (A : Ar) (l : List Nat) (a b x : Option Addr) (c d xc : Nat) (w' : World) : Prop where
  cap : A.σ.cap = n
  len : l.length ≤ 61
  inv : A.Inv [] (hof l)
  agg : A.Agg
  sl : w'.ownsRow w.heap.size 46 11 (.slice a A.σ.cap c) A.σ.cap (slotsV A)
  fr : w'.ownsRow w.heap.size 32 1 (.slice b A.σ.free.length d) A.σ.free.length (u32s A.σ.free)
  row : w'.ownsRow w.heap.size 32 1 (.slice x l.length xc) l.length (u32s l)
  below : Below w.heap.size w w'
  zero : 0 < l.length ∧ ∀ y ∈ l, y = 0 ∨ A.σ.on y = true
def BuildRes (n : Nat) (w : World) (e : Ending) (w' : World) : Prop :=
  ∃ (A : Ar) (l : List Nat) (a b x : Option Addr) (c d xc : Nat), e = .returned (.tuple #[.agg #[.slice a A.σ.cap c, .slice b A.σ.free.length d], .slice x l.length xc, .bool true]) ∧ Built n w A l a b x c d xc w'
def BuildSpec : Prop := ∀ (a : Option Addr) (n m cap : Nat) (w : World), Steps6 w a m → m ≤ cap → cap ≤ maxLen → 1 ≤ n → n ≤ 30 → Calls Try.prog 19 #[.int .i64 (n : Int), .slice a m cap] w (BuildRes n w)
/-- which slots are allocated -/
def onR (A : Ar) : Nat → Bool := fun j => A.σ.on (j + 1)
theorem onR_rch {A : Ar} {l : List Nat} (h : A.Inv [] (hof l)) (ha : A.Agg) : ∀ j, j < A.σ.cap → (onR A j = true ↔ Rch A.sl A.σ.cap l (j + 1)) := fun j hj =>
  ⟨fun ho => reach_rch h _ (Ar.reach_all h ha 2147483648 (j + 1) ho (by have := (ha.size (j + 1) ho).1; omega)) ho, fun hr => (al_on h.ok (j + 1)).1 hr.al⟩
section
variable {n c d xc : Nat} {w w' : World} {A : Ar} {l : List Nat} {a b x : Option Addr}
theorem Built.slots (h : Built n w A l a b x c d xc w') {wx : World} (hb : Below w'.heap.size w' wx) : SlotsAt wx a A.σ.cap A.sl := (slots_at h.inv h.sl).below hb
theorem Built.frees (h : Built n w A l a b x c d xc w') {wx : World} (hb : Below w'.heap.size w' wx) : U32At wx b A.σ.free :=
  (row_u32 h.fr fun y hy => by have := (h.inv.ok.free y).1 hy; have := h.inv.ok.cap2; omega).below hb
theorem Built.roots (h : Built n w A l a b x c d xc w') {wx : World} (hb : Below w'.heap.size w' wx) : U32At wx x l := (row_u32 h.row (idx_lt4 h.inv)).below hb
theorem Built.clean (h : Built n w A l a b x c d xc w') : chk A.sl A.σ.cap A.σ.free l (onR A) = [] := chk_sound h.inv h.agg h.zero.2 (onR_rch h.inv h.agg)
theorem Built.freelen (h : Built n w A l a b x c d xc w') : A.σ.free.length ≤ 65536 := by have := h.inv.ok.len; have := h.inv.ok.cap2; omega
end
end Go.Proofs.Yticmaddcomemhaa
