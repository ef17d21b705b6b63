/- An allocator of slots as a plain state (the free slots in the order in which they are allocated, generations, which are allocated), and what is asked of a program's functions on it, stated, not proved here. -/
import Derived.Test.YtkhfofpbmnapjaaBase
import Derived.Test.YtkhfofpbmnapjaaOwn
set_option linter.unusedVariables false
namespace Go.Proofs.Ytkhfofpbmnapjaa
open Go.RowKit

structure St where
  cap : Nat
  free : List Nat
  gen : Nat → Int
  on : Nat → Bool
namespace St
def init (n : Nat) : St := ⟨n, List.range' 1 n, fun _ => 0, fun _ => false⟩
def take (σ : St) (i : Nat) (t : List Nat) : St := ⟨σ.cap, t, fun j => if j = i then (σ.gen i + 1) % 4294967296 else σ.gen j, fun j => if j = i then true else σ.on j⟩
def put (σ : St) (i : Nat) : St := ⟨σ.cap, i :: σ.free, σ.gen, fun j => if j = i then false else σ.on j⟩
structure Ok (σ : St) : Prop where
  cap1 : 1 ≤ σ.cap
  cap2 : σ.cap ≤ 65536
  free : ∀ i, i ∈ σ.free ↔ 1 ≤ i ∧ i ≤ σ.cap ∧ σ.on i = false
  nodup : σ.free.Nodup
  on : ∀ i, σ.on i = true → 1 ≤ i ∧ i ≤ σ.cap
  gen : ∀ i, 0 ≤ σ.gen i ∧ σ.gen i < 4294967296
  out : ∀ i, i < 1 ∨ σ.cap < i → σ.gen i = 0
theorem init_ok {n : Nat} (h1 : 1 ≤ n) (h2 : n ≤ 65536) : (init n).Ok where
  cap1 := h1
  cap2 := h2
  free := fun i => by simp [init, List.mem_range'_1]; omega
  nodup := List.nodup_range'
  on := fun i h => by simp [init] at h
  gen := fun i => by simp [init]
  out := fun i _ => rfl
theorem take_ok {σ : St} (h : σ.Ok) {i : Nat} {t : List Nat} (hf : σ.free = i :: t) : (σ.take i t).Ok where
  cap1 := h.cap1
  cap2 := h.cap2
  free := fun j => by
    have hn := h.nodup
    rw [hf, List.nodup_cons] at hn
    have hj := h.free j
    rw [hf, List.mem_cons] at hj
    by_cases e : j = i
    · subst e
      simp [take, hn.1]
    · simp only [e, false_or] at hj
      simp [take, e, hj]
  nodup := by have hn := h.nodup; rw [hf, List.nodup_cons] at hn; exact hn.2
  on := fun j hj => by
    by_cases e : j = i
    · subst e
      have := (h.free j).1 (by rw [hf]; simp)
      exact ⟨this.1, this.2.1⟩
    · simp [take, e] at hj
      exact h.on j hj
  gen := fun j => by
    show 0 ≤ (if j = i then (σ.gen i + 1) % 4294967296 else σ.gen j) ∧ (if j = i then (σ.gen i + 1) % 4294967296 else σ.gen j) < 4294967296
    split
    · omega
    · exact h.gen j
  out := fun j hj => by
    have hi := (h.free i).1 (by rw [hf]; simp)
    show (if j = i then (σ.gen i + 1) % 4294967296 else σ.gen j) = 0
    have hj' : j < 1 ∨ σ.cap < j := hj
    rw [if_neg (by omega)]
    exact h.out j hj
theorem put_ok {σ : St} (h : σ.Ok) {i : Nat} (hi : σ.on i = true) : (σ.put i).Ok where
  cap1 := h.cap1
  cap2 := h.cap2
  free := fun j => by
    have hb := h.on i hi
    have hj := h.free j
    by_cases e : j = i
    · subst e; simp [put]; exact hb
    · simp [put, e, hj]
  nodup := by
    show (i :: σ.free).Nodup
    rw [List.nodup_cons]
    exact ⟨fun hm => by have := (h.free i).1 hm; rw [hi] at this; simp at this, h.nodup⟩
  on := fun j hj => by
    by_cases e : j = i
    · simp [put, e] at hj
    · simp [put, e] at hj
      exact h.on j hj
  gen := h.gen
  out := h.out
theorem nodup_le (n : Nat) : ∀ l : List Nat, l.Nodup → (∀ i ∈ l, 1 ≤ i ∧ i ≤ n) → l.length ≤ n := by
  induction n with
  | zero =>
    intro l _ h
    cases l with
    | nil => simp
    | cons i t => have := h i (by simp); omega
  | succ n ih =>
    intro l hn h
    by_cases hm : n + 1 ∈ l
    · have h1 := ih (l.erase (n + 1)) (hn.erase _) fun i hi => by
        have h2 := (hn.mem_erase_iff).1 hi
        have := h i h2.2
        have := h2.1
        omega
      rw [List.length_erase_of_mem hm] at h1
      omega
    · have h1 := ih l hn fun i hi => by
        have := h i hi
        have : i ≠ n + 1 := fun e => hm (e ▸ hi)
        omega
      omega
theorem Ok.len {σ : St} (h : σ.Ok) : σ.free.length ≤ σ.cap := nodup_le _ _ h.nodup fun i hi => by have := (h.free i).1 hi; omega
theorem Ok.le {σ : St} (h : σ.Ok) {i : Nat} (hi : i ∈ σ.free) : 1 ≤ i ∧ i ≤ 65536 := by
  have := (h.free i).1 hi
  have := h.cap2
  omega
end St

def u32s (l : List Nat) : List Value := l.map fun (i : Nat) => .int .u32 (i : Int)
/-- the call returned v and wrote nothing that was there -/
def Calm (w : World) (v : Value) (e : Ending) (w' : World) : Prop := e = .returned v ∧ Below w.heap.size w w'

/-- what is asked of the program -/
structure Impl where
  Is : World → Value → St → (Nat → Prop) → Prop
  dom : ∀ {w p σ F}, Is w p σ F → ∀ k, F k → k < w.heap.size
  keep : ∀ {w w' p σ F}, Is w p σ F → (∀ k, F k → w'.heap[k]? = w.heap[k]?) → Is w' p σ F
  ok : ∀ {w p σ F}, Is w p σ F → σ.Ok
  ptr : ∀ {w p σ F}, Is w p σ F → ∃ a, p = .pointer (some a)
  new_ok : ∀ (n : Nat) (w : World), 1 ≤ n → n ≤ 65536 → Calls Try.prog 42 #[.int .i64 (n : Int)] w
    fun e w' => ∃ p F, e = .returned (.tuple #[p, .int .i64 0]) ∧ Is w' p (St.init n) F ∧ (∀ k, F k → w.heap.size ≤ k) ∧ Below w.heap.size w w'
  new_bad : ∀ (n : Int) (w : World), -9223372036854775808 ≤ n → n ≤ 9223372036854775807 → n < 1 ∨ 65536 < n → Calls Try.prog 42 #[.int .i64 n] w (Calm w (.tuple #[.pointer none, .int .i64 1]))
  alloc : ∀ (p : Value) (σ : St) (F : Nat → Prop) (w : World), Is w p σ F → Calls Try.prog 44 #[p] w
    fun e w' => ∃ F', Alters F F' w w' ∧ (σ.free = [] → e = .returned (.tuple #[.int .u32 0, .int .i64 2]) ∧ Is w' p σ F') ∧
      ∀ i t, σ.free = i :: t → e = .returned (.tuple #[.int .u32 (i : Int), .int .i64 0]) ∧ Is w' p (σ.take i t) F'
  release : ∀ (p : Value) (σ : St) (F : Nat → Prop) (i : Nat) (w : World), Is w p σ F → i < 4294967296 → Calls Try.prog 65 #[p, .int .u32 (i : Int)] w
    fun e w' => ∃ F', Alters F F' w w' ∧ (σ.on i = false → e = .returned (.int .i64 3) ∧ Is w' p σ F') ∧ (σ.on i = true → e = .returned (.int .i64 0) ∧ Is w' p (σ.put i) F')
  allocated : ∀ (p : Value) (σ : St) (F : Nat → Prop) (i : Nat) (w : World), Is w p σ F → i < 4294967296 → Calls Try.prog 29 #[p, .int .u32 (i : Int)] w (Quiet w (.bool (σ.on i)))
  generation : ∀ (p : Value) (σ : St) (F : Nat → Prop) (i : Nat) (w : World), Is w p σ F → i < 4294967296 → Calls Try.prog 30 #[p, .int .u32 (i : Int)] w (Quiet w (.int .u32 (σ.gen i)))
  freeN : ∀ (p : Value) (σ : St) (F : Nat → Prop) (w : World), Is w p σ F → Calls Try.prog 37 #[p] w (Quiet w (.int .i64 (σ.free.length : Int)))
  capacity : ∀ (p : Value) (σ : St) (F : Nat → Prop) (w : World), Is w p σ F → Calls Try.prog 50 #[p] w (Quiet w (.int .i64 (σ.cap : Int)))
  order : ∀ (p : Value) (σ : St) (F : Nat → Prop) (w : World), Is w p σ F → Calls Try.prog 31 #[p] w
    fun e w' => ∃ a c, e = .returned (.slice a σ.free.length c) ∧ w'.ownsRow w.heap.size 28 1 (.slice a σ.free.length c) σ.free.length (u32s σ.free) ∧ Below w.heap.size w w'
theorem Impl.below (I : Impl) {w w' : World} {p : Value} {σ : St} {F : Nat → Prop} (h : I.Is w p σ F) (hb : Below w.heap.size w w') : I.Is w' p σ F := I.keep h (below_foot hb (I.dom h))
end Go.Proofs.Ytkhfofpbmnapjaa
