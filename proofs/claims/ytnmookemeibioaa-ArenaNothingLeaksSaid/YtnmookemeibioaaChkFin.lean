/- The reference's Check keeps its contract. -/
import Derived.Test.YtnmookemeibioaaChkA
import Derived.Test.YtnmookemeibioaaSoundW
set_option linter.unusedVariables false
namespace Go.Proofs.Ytnmookemeibioaa
theorem check_spec : CheckSpec := fun w a b ra n c d rc S fr rs h1 h2 h3 h4 h5 h6 R h7 => (check_any fr rs h1 h2 h3 h4 h5 h6 R h7).mono fun e w' ⟨a', c', h8, h9, h10⟩ => ⟨a', c', h8, h9, h10⟩
end Go.Proofs.Ytnmookemeibioaa
