/- The reference's node on the dump of an arena: the node of an allocated slot, else a zero node. -/
import Derived.Test.YtbjmblfifnjafaaTrees
import Derived.Test.YtbjmblfifnjafaaSlotsAt
import Derived.Test.YtbjmblfifnjafaaRefNum
import Derived.Laws.NewBlocks
set_option linter.unusedVariables false
set_option linter.unusedSimpArgs false
namespace Go.Proofs.Ytbjmblfifnjafaa
open Go.RowKit

/-- the node at an index; a zero node where there is none -/
def Ar.nz (A : Ar) (i : Nat) : Nd := if A.σ.on i = true then A.nd i else Nd.zero
def ndRow (x : Nd) : Array Value := #[.int .i64 x.key, .int .i64 x.val, .int .u32 (x.left : Int), .int .u32 (x.right : Int), .int .i64 x.size, .int .i64 x.sum, .int .i64 x.mn, .int .i64 x.mx]
theorem ndRow_one (x : Nd) : (ndRow x).all (·.oneCell') = true := by simp [ndRow, Value.oneCell']
end Go.Proofs.Ytbjmblfifnjafaa
