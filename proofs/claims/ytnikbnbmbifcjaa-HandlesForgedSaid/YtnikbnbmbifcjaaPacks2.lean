/- Pack and Unpack return what the chapter says, for every input. -/
import Derived.Test.YtnikbnbmbifcjaaBase
import Derived.Test.YtnikbnbmbifcjaaPure
set_option linter.unusedVariables false
namespace Go.Proofs.Ytnikbnbmbifcjaa
open Go.RowKit
theorem pack_any (n m : Int) (w : World) (h1 : 0 ≤ n) (h2 : n < 4294967296) (h3 : 0 ≤ m) (h4 : m < 4294967296) :
    Calls Try.prog 42 #[.int .u32 n, .int .u32 m] w fun e w' => e = .returned (.int .u64 (m * 4294967296 + n)) ∧ w = w' := by
  go_enter Try.func42, Try.ntmps42
  go_wp2
  go_ret
  exact ⟨ret_int (pack_or n m h1 h2 h3 h4), rfl⟩
theorem unpack_any (n : Int) (w : World) (h1 : 0 ≤ n) (h2 : n < 18446744073709551616) :
    Calls Try.prog 44 #[.int .u64 n] w fun e w' => e = .returned (.tuple #[.int .u32 (n % 4294967296), .int .u32 (n / 4294967296)]) ∧ w = w' := by
  go_enter Try.func44, Try.ntmps44
  go_wp2
  go_ret2
  exact ⟨rfl, rfl⟩
end Go.Proofs.Ytnikbnbmbifcjaa
