/- Pack and Unpack return what the chapter says, for every input; the reference too. -/
import Derived.Test.YtnikbnbmbifcjaaBase
set_option linter.unusedVariables false
namespace Go.Proofs.Ytnikbnbmbifcjaa
open Go.RowKit
theorem refpack_any (n m : Int) (w : World) (h1 : 0 ≤ n) (h2 : n < 4294967296) (h3 : 0 ≤ m) (h4 : m < 4294967296) :
    Calls Try.prog 37 #[.int .u32 n, .int .u32 m] w fun e w' => e = .returned (.int .u64 (m * 4294967296 + n)) ∧ w = w' := by
  go_enter Try.func37, Try.ntmps37
  go_wp2
  go_ret
  exact ⟨rfl, rfl⟩
theorem refunpack_any (h : Int) (w : World) (h1 : 0 ≤ h) (h2 : h < 18446744073709551616) :
    Calls Try.prog 45 #[.int .u64 h] w fun e w' => e = .returned (.tuple #[.int .u32 (h % 4294967296), .int .u32 (h / 4294967296)]) ∧ w = w' := by
  go_enter Try.func45, Try.ntmps45
  go_wp2
  go_ret2
  exact ⟨rfl, rfl⟩
end Go.Proofs.Ytnikbnbmbifcjaa
