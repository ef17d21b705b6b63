/- What the proofs of layer frame's statements ask of the program's functions: the contracts, stated, not proved here. -/
import Derived.Test.YtdaenfhedepiaaaRefFrame
import Derived.Test.YtdaenfhedepiaaaKitMod
import Derived.Test.YtdaenfhedepiaaaKitSame
set_option linter.unusedVariables false
namespace Go.Proofs.Ytdaenfhedepiaaa
open Go.RowKit

/-- the call returned v and wrote nothing that was there -/
def Calm (w : World) (v : Value) (e : Ending) (w' : World) : Prop := e = .returned v ∧ Below w.heap.size w w'
def ChecksumOk : Prop := ∀ (a : Option Addr) (n cap : Nat) (zs : List Int) (w : World), Bs w a n cap zs → n ≤ 140737488351232 →
  Calls Try.prog 13 #[.slice a n cap] w (Calm w (.int .u32 (cs 0 zs)))
def ExtendOk : Prop := ∀ (c : Int) (a : Option Addr) (n cap : Nat) (zs : List Int) (w : World), 0 ≤ c → c < 4294967296 → Bs w a n cap zs → n ≤ 140737488351232 →
  Calls Try.prog 15 #[.int .u32 c, .slice a n cap] w (Calm w (.int .u32 (cs c zs)))
def AppPost (w : World) (xs zs : List Int) (e : Ending) (w' : World) : Prop :=
  (zs.length ≤ 1048576 → ∃ g cap, e = .returned (.tuple #[.slice (some ⟨g, 0, none⟩) (xs.length + (fr zs).length) cap, .int .i64 0]) ∧ Bs w' (some ⟨g, 0, none⟩) (xs.length + (fr zs).length) cap (xs ++ fr zs)) ∧
  (1048576 < zs.length → e = .returned (.tuple #[.slice none 0 0, .int .i64 1])) ∧ Below w.heap.size w w'
def AppendOk : Prop := ∀ (a c : Option Addr) (n cap m cp : Nat) (xs zs : List Int) (w : World), Bs w a n cap xs → Bs w c m cp zs → n ≤ 140737488351232 → m ≤ 140737488351232 →
  Calls Try.prog 19 #[.slice a n cap, .slice c m cp] w (AppPost w xs zs)
def NextOk : Prop := ∀ (a : Option Addr) (n cap : Nat) (p : Int) (zs : List Int) (w : World), Bs w a n cap zs → n ≤ 140737488351232 → -9223372036854775808 ≤ p → p ≤ 9223372036854775807 →
  Calls Try.prog 22 #[.slice a n cap, .int .i64 p] w (NextPost w zs p)
theorem cs_check : cs 0 [49, 50, 51, 52, 53, 54, 55, 56, 57] = 3808858755 := by kernel_rfl
theorem vs_one : vs 9 1 = [1] := by decide
end Go.Proofs.Ytdaenfhedepiaaa
