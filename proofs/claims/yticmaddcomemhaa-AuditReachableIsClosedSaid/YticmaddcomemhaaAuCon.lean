/- What is asked of the program's Check on any dump, stated, not proved here. -/
import Derived.Test.YticmaddcomemhaaChkS
set_option linter.unusedVariables false
namespace Go.Proofs.Yticmaddcomemhaa
open Go.RowKit
def PFds (w : World) (l : List Fd) (e : Ending) (w' : World) : Prop :=
  ∃ a c, e = .returned (.slice a l.length c) ∧ w'.ownsRow w.heap.size 36 4 (.slice a l.length c) l.length (fdsV l) ∧ Below w.heap.size w w'
def PCheckSpec : Prop := ∀ (w : World) (a b ra : Option Addr) (n c m d rc L : Nat) (S : Nat → Sl) (fr rs : List Nat), fr.length = m → rs.length = L → SlotsAt w a n S → U32At w b fr → U32At w ra rs → n ≤ 65536 → m ≤ 1000000 → L ≤ 1000000 → ∀ R : Nat → Bool, (∀ j, j < n → (R j = true ↔ Rch S n rs (j + 1))) →
    Calls Try.prog 17 #[.agg #[.slice a n c, .slice b m d], .slice ra L rc] w (PFds w (chk S n fr rs R))
end Go.Proofs.Yticmaddcomemhaa
