/- The program's Check keeps its contract. -/
import Derived.Test.YticmaddcomemhaaAuOk9
set_option linter.unusedVariables false
namespace Go.Proofs.Yticmaddcomemhaa
theorem pcheck_spec : PCheckSpec := fun w a b ra n c m d rc L S fr rs hM hL h1 h2 h3 hn hm hl R hR => pCheck_any fr rs hM hL h1 h2 h3 hn hm hl R hR
end Go.Proofs.Yticmaddcomemhaa
