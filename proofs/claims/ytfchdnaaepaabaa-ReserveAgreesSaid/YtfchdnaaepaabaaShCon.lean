/- What is asked of the program's numbers of weights and heights, stated, not proved here; the laws about them alone, over that. -/
import Derived.Test.YtfchdnaaepaabaaTrees
import Derived.Test.YtfchdnaaepaabaaRefNum
import Derived.Test.YtfchdnaaepaabaaKitMod
import Derived.Deep.DeepCutAuto
set_option linter.unusedVariables false
set_option linter.unusedSimpArgs false
namespace Go.Proofs.Ytfchdnaaepaabaa
open Go.RowKit
structure ShNum : Prop where
  maxHeight : ∀ (n : Int) (w : World), -9223372036854775808 ≤ n → n ≤ 9223372036854775807 → Calls Try.prog 27 #[.int .i64 n] w (Calm w (.int .i64 (xhI n)))
theorem calm_trans {a b c : World} (h : Below a.heap.size a b) (h1 : Below b.heap.size b c) : Below a.heap.size a c := h.trans (h1.mono h.size)
def Tbl (h0 k0 l0 r0 : Value) (w : World) (h k l r i : Value) (wr : World) : Prop :=
  ∃ (a b c d : Int) (j : Nat), h = .int .i64 a ∧ k = .int .i64 b ∧ l = .int .i64 c ∧ r = .int .i64 d ∧ i = .int .i64 (j : Int) ∧ j ≤ 2 ∧ Below w.heap.size w wr ∧
    (-9223372036854775808 ≤ a ∧ a ≤ 9223372036854775807) ∧ (-9223372036854775808 ≤ b ∧ b ≤ 9223372036854775807) ∧ (-9223372036854775808 ≤ c ∧ c ≤ 9223372036854775807) ∧ (-9223372036854775808 ≤ d ∧ d ≤ 9223372036854775807)
end Go.Proofs.Ytfchdnaaepaabaa
