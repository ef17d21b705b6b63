/- The program's functions of layer frame keep their contracts: Checksum, Extend, Append, Next. -/
import Derived.Test.YtdaenfhedepiaaaFrameNext
set_option linter.unusedVariables false
namespace Go.Proofs.Ytdaenfhedepiaaa
theorem frame_ok : ChecksumOk ∧ ExtendOk ∧ AppendOk ∧ NextOk := ⟨checksum_ok, extend_ok, append_ok, next_ok⟩
end Go.Proofs.Ytdaenfhedepiaaa
