/- The program's allocator: Order. -/
import Derived.Test.YtnikbnbmbifcjaaSlotsOk1
import Derived.Test.YtnikbnbmbifcjaaRefSlots
set_option linter.unusedVariables false
namespace Go.Proofs.Ytnikbnbmbifcjaa
open Go.RowKit
section
variable {w w' : World} {pb : Nat} {σ : St} {st : List Nat} {us : Nat} {sa ra : Option Addr} {sc rc : Nat}
theorem Lie.below (h : Lie w pb σ st us sa ra sc rc) (hb : Below w.heap.size w w') : Lie w' pb σ st us sa ra sc rc := h.keep (below_foot hb h.dom)
end
end Go.Proofs.Ytnikbnbmbifcjaa
