/- What is asked of a program's functions on an arena, over the plain state, stated, not proved here. -/
import Derived.Test.YtkhfofpbmnapjaaTrees
import Derived.Test.YtkhfofpbmnapjaaOwn
set_option linter.unusedVariables false
namespace Go.Proofs.Ytkhfofpbmnapjaa
open Go.RowKit

def Ar.init (n : Nat) : Ar := ⟨St.init n, fun _ => Nd.zero, fun _ => 0⟩
theorem Ar.init_inv {n : Nat} (h1 : 1 ≤ n) (h2 : n ≤ 65536) : (Ar.init n).Inv [] (fun _ => 0) :=
  ⟨St.init_ok h1 h2, (fun k hk => (by cases hk)), (fun i hi => (by cases hi)), (fun i hi => (by cases hi)), (fun i hi => (by cases hi)), (fun i hi => absurd hi (Nat.lt_irrefl 0)), (fun i hi => ⟨rfl, rfl⟩)⟩
theorem Ar.init_agg (n : Nat) : (Ar.init n).Agg := ⟨(fun k hk => (by cases hk)), (fun k hk => (by cases hk))⟩
/-- 0 or an allocated slot -/
def Ar.Idx (A : Ar) (i : Nat) : Prop := i = 0 ∨ A.σ.on i = true
/-- a reference more, of 0 none -/
def Ar.ret (A : Ar) (i : Nat) : Ar := if i = 0 then A else A.inc i
/-- the eight cells of a node -/
def ndV (x : Nd) : List Value := [.int .i64 x.key, .int .i64 x.val, .int .u32 (x.left : Int), .int .u32 (x.right : Int), .int .i64 x.size, .int .i64 x.sum, .int .i64 x.mn, .int .i64 x.mx]
/-- the cells of a slot's description -/
def slotV (A : Ar) (i : Nat) : List Value := [.bool (A.σ.on i), .int .i64 (A.cnt i), .int .u32 (A.σ.gen i)] ++ ndV (A.nd i)
def slotsV (A : Ar) : List Value := (List.range' 1 A.σ.cap).flatMap (slotV A)
/-- fuel enough for the cascade -/
def Ar.fuel (A : Ar) : Nat := 3 * A.σ.cap + 1
def Ar.gone (A : Ar) (i : Nat) : Ar := (Ar.run A.fuel A [i]).1
def Ar.freed (A : Ar) (i : Nat) : Nat := (Ar.run A.fuel A [i]).2
theorem Ar.gone_ok {A : Ar} {i : Nat} {held : Nat → Nat} (h : A.Inv [i] held) (ha : A.Agg) : (A.gone i).Inv [] held ∧ (A.gone i).Agg ∧ (A.gone i).σ.cap = A.σ.cap ∧ (A.gone i).σ.free.length = A.σ.free.length + A.freed i := by
  have h1 := Ar.run_ok A.fuel A [i] held h (by unfold Ar.fuel; simp; omega)
  exact ⟨h1.1, Ar.Agg.run A.fuel A [i] held h ha, h1.2.1, h1.2.2⟩

/-- what is asked of the program; rd: the reads that were counted -/
structure AImpl where
  Is : World → Value → Ar → Int → (Nat → Prop) → Prop
  dom : ∀ {w p A rd F}, Is w p A rd F → ∀ k, F k → k < w.heap.size
  keep : ∀ {w w' p A rd F}, Is w p A rd F → (∀ k, F k → w'.heap[k]? = w.heap[k]?) → Is w' p A rd F
  ok : ∀ {w p A rd F}, Is w p A rd F → A.σ.Ok
  ptr : ∀ {w p A rd F}, Is w p A rd F → ∃ a, p = .pointer (some a)
  new_ok : ∀ (n : Nat) (w : World), 1 ≤ n → n ≤ 65536 → Calls Try.prog 24 #[.int .i64 (n : Int)] w
    fun e w' => ∃ p F, e = .returned (.tuple #[p, .int .i64 0]) ∧ Is w' p (Ar.init n) 0 F ∧ (∀ k, F k → w.heap.size ≤ k) ∧ Below w.heap.size w w'
  new_bad : ∀ (n : Int) (w : World), -9223372036854775808 ≤ n → n ≤ 9223372036854775807 → n < 1 ∨ 65536 < n → Calls Try.prog 24 #[.int .i64 n] w (Calm w (.tuple #[.pointer none, .int .i64 1]))
  make : ∀ (p : Value) (A : Ar) (rd : Int) (F : Nat → Prop) (key val : Int) (l r : Nat) (held : Nat → Nat) (w : World), Is w p A rd F → A.Inv [] held → A.Agg → (∀ j, held j ≤ 1048576) → -9223372036854775808 ≤ key → key ≤ 9223372036854775807 → -9223372036854775808 ≤ val → val ≤ 9223372036854775807 → l < 4294967296 → r < 4294967296 →
    Calls Try.prog 25 #[p, .int .i64 key, .int .i64 val, .int .u32 (l : Int), .int .u32 (r : Int)] w
    fun e w' => ∃ F', Alters F F' w w' ∧
      (¬ (A.Idx l ∧ A.Idx r ∧ (A.node key val l r).size ≤ 2147483647) → e = .returned (.tuple #[.int .u32 0, .int .i64 1]) ∧ Is w' p A rd F') ∧
      (A.Idx l ∧ A.Idx r ∧ (A.node key val l r).size ≤ 2147483647 → A.σ.free = [] → e = .returned (.tuple #[.int .u32 0, .int .i64 2]) ∧ Is w' p A rd F') ∧
      (A.Idx l ∧ A.Idx r ∧ (A.node key val l r).size ≤ 2147483647 → ∀ i t, A.σ.free = i :: t → e = .returned (.tuple #[.int .u32 (i : Int), .int .i64 0]) ∧ Is w' p (A.made i t (A.node key val l r)) rd F')
  node : ∀ (p : Value) (A : Ar) (rd : Int) (F : Nat → Prop) (i : Nat) (w : World), Is w p A rd F → 0 ≤ rd → rd < 4611686018427387904 → i < 4294967296 → Calls Try.prog 28 #[p, .int .u32 (i : Int)] w
    fun e w' => ∃ F', Alters F F' w w' ∧ (A.σ.on i = false → e = .returned (.tuple #[.agg (ndV Nd.zero).toArray, .bool false]) ∧ Is w' p A rd F') ∧ (A.σ.on i = true → e = .returned (.tuple #[.agg (ndV (A.nd i)).toArray, .bool true]) ∧ Is w' p A (rd + 1) F')
  release : ∀ (p : Value) (A : Ar) (rd : Int) (F : Nat → Prop) (i : Nat) (held : Nat → Nat) (w : World), Is w p A rd F → i < 4294967296 → (A.Idx i → A.Inv [i] held) → Calls Try.prog 47 #[p, .int .u32 (i : Int)] w
    fun e w' => ∃ F', Alters F F' w w' ∧ (¬ A.Idx i → e = .returned (.tuple #[.int .i64 0, .int .i64 3]) ∧ Is w' p A rd F') ∧ (A.Idx i → e = .returned (.tuple #[.int .i64 (A.freed i : Int), .int .i64 0]) ∧ Is w' p (A.gone i) rd F')
  freeN : ∀ (p : Value) (A : Ar) (rd : Int) (F : Nat → Prop) (w : World), Is w p A rd F → Calls Try.prog 17 #[p] w (Quiet w (.int .i64 (A.σ.free.length : Int)))
  dump : ∀ (p : Value) (A : Ar) (rd : Int) (F : Nat → Prop) (w : World), Is w p A rd F → Calls Try.prog 10 #[p] w
    fun e w' => ∃ a c b d, e = .returned (.agg #[.slice a A.σ.cap c, .slice b A.σ.free.length d]) ∧ w'.ownsRow w.heap.size 75 11 (.slice a A.σ.cap c) A.σ.cap (slotsV A) ∧
      w'.ownsRow w.heap.size 28 1 (.slice b A.σ.free.length d) A.σ.free.length (u32s A.σ.free) ∧ Below w.heap.size w w'
theorem AImpl.below (I : AImpl) {w w' : World} {p : Value} {A : Ar} {rd : Int} {F : Nat → Prop} (h : I.Is w p A rd F) (hb : Below w.heap.size w w') : I.Is w' p A rd F := I.keep h (below_foot hb (I.dom h))
end Go.Proofs.Ytkhfofpbmnapjaa
