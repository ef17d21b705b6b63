/- A table of handles as a plain state (an allocator's state, the values of its entries), and what is asked of a program's functions on it, stated, not proved here. -/
import Derived.Test.YtnikbnbmbifcjaaHandPure
import Derived.Test.YtnikbnbmbifcjaaOwn
set_option linter.unusedVariables false
namespace Go.Proofs.Ytnikbnbmbifcjaa
open Go.RowKit

def upd (v : Nat → Int) (i : Nat) (x : Int) : Nat → Int := fun j => if j = i then x else v j
theorem upd_same (v : Nat → Int) (i : Nat) (x : Int) : upd v i x i = x := by simp [upd]
theorem upd_other (v : Nat → Int) {i j : Nat} (x : Int) (h : j ≠ i) : upd v i x j = v j := by simp [upd, h]
def u64s (l : List Int) : List Value := l.map fun (i : Int) => .int .u64 i
def St.hds (σ : St) : List Int := σ.opened.map σ.hd

/-- what is asked of the program; the values of entries that aren't open don't matter -/
structure HImpl where
  Is : World → Value → St → (Nat → Int) → (Nat → Prop) → Prop
  dom : ∀ {w p σ v F}, Is w p σ v F → ∀ k, F k → k < w.heap.size
  keep : ∀ {w w' p σ v F}, Is w p σ v F → (∀ k, F k → w'.heap[k]? = w.heap[k]?) → Is w' p σ v F
  ok : ∀ {w p σ v F}, Is w p σ v F → σ.Ok
  ptr : ∀ {w p σ v F}, Is w p σ v F → ∃ a, p = .pointer (some a)
  new_ok : ∀ (n : Nat) (w : World), 1 ≤ n → n ≤ 4096 → Calls Try.prog 8 #[.int .i64 (n : Int)] w
    fun e w' => ∃ p F, e = .returned (.tuple #[p, .int .i64 0]) ∧ Is w' p (St.init n) (fun _ => 0) F ∧ (∀ k, F k → w.heap.size ≤ k) ∧ Below w.heap.size w w'
  new_bad : ∀ (n : Int) (w : World), -9223372036854775808 ≤ n → n ≤ 9223372036854775807 → n < 1 ∨ 4096 < n → Calls Try.prog 8 #[.int .i64 n] w (Calm w (.tuple #[.pointer none, .int .i64 1]))
  opens : ∀ (p : Value) (σ : St) (v : Nat → Int) (F : Nat → Prop) (x : Int) (w : World), Is w p σ v F → 0 ≤ x → x < 4294967296 → Calls Try.prog 12 #[p, .int .u32 x] w
    fun e w' => ∃ F', Alters F F' w w' ∧ (σ.free = [] → e = .returned (.tuple #[.int .u64 0, .int .i64 2]) ∧ Is w' p σ v F') ∧
      ∀ i t, σ.free = i :: t → e = .returned (.tuple #[.int .u64 ((σ.take i t).hd i), .int .i64 0]) ∧ Is w' p (σ.take i t) (upd v i x) F'
  lookup : ∀ (p : Value) (σ : St) (v : Nat → Int) (F : Nat → Prop) (h : Int) (w : World), Is w p σ v F → 0 ≤ h → h < 18446744073709551616 → Calls Try.prog 15 #[p, .int .u64 h] w
    (Calm w (if σ.ent h = 0 then .tuple #[.int .u32 0, .int .i64 5] else .tuple #[.int .u32 (v (σ.ent h)), .int .i64 0]))
  replace : ∀ (p : Value) (σ : St) (v : Nat → Int) (F : Nat → Prop) (h x : Int) (w : World), Is w p σ v F → 0 ≤ h → h < 18446744073709551616 → 0 ≤ x → x < 4294967296 → Calls Try.prog 17 #[p, .int .u64 h, .int .u32 x] w
    fun e w' => ∃ F', Alters F F' w w' ∧ (σ.ent h = 0 → e = .returned (.int .i64 5) ∧ Is w' p σ v F') ∧ (σ.ent h ≠ 0 → e = .returned (.int .i64 0) ∧ Is w' p σ (upd v (σ.ent h) x) F')
  close : ∀ (p : Value) (σ : St) (v : Nat → Int) (F : Nat → Prop) (h : Int) (w : World), Is w p σ v F → 0 ≤ h → h < 18446744073709551616 → Calls Try.prog 19 #[p, .int .u64 h] w
    fun e w' => ∃ F', Alters F F' w w' ∧ (σ.ent h = 0 → e = .returned (.tuple #[.int .u32 0, .int .i64 5]) ∧ Is w' p σ v F') ∧
      (σ.ent h ≠ 0 → e = .returned (.tuple #[.int .u32 (v (σ.ent h)), .int .i64 0]) ∧ Is w' p (σ.put (σ.ent h)) v F')
  len : ∀ (p : Value) (σ : St) (v : Nat → Int) (F : Nat → Prop) (w : World), Is w p σ v F → Calls Try.prog 11 #[p] w (Calm w (.int .i64 (σ.opened.length : Int)))
  handles : ∀ (p : Value) (σ : St) (v : Nat → Int) (F : Nat → Prop) (w : World), Is w p σ v F → Calls Try.prog 24 #[p] w
    fun e w' => ∃ a c, e = .returned (.slice a σ.hds.length c) ∧ w'.ownsRow w.heap.size 29 1 (.slice a σ.hds.length c) σ.hds.length (u64s σ.hds) ∧ Below w.heap.size w w'
theorem HImpl.below (I : HImpl) {w w' : World} {p : Value} {σ : St} {v : Nat → Int} {F : Nat → Prop} (h : I.Is w p σ v F) (hb : Below w.heap.size w w') : I.Is w' p σ v F := I.keep h (below_foot hb (I.dom h))
end Go.Proofs.Ytnikbnbmbifcjaa
