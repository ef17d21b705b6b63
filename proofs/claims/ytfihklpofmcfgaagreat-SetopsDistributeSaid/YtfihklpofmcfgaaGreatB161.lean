/- Of the proofs of SetopsAlgebra, SetopsDistribute: Bytes, Base, Own, SlotsCon, Trees, ArenaCon, SlotsAid. -/
import Derived.Test.YtfihklpofmcfgaaGreatB160
import Derived.Lib.Zigzag
import Derived.Laws.BitsAllLaws
import Derived.Laws.Bits128
import Derived.RowKit
import Derived.Below
import Derived.Laws.OwnMore
import Derived.OwnWalk
import Derived.Deep.Draws
import Derived.Test.YtfihklpofmcfgaaGreatRows
import Derived.WalkKit
import Derived.WalkSpells
import Derived.WalkLawsBesides
import Derived.ProofKit
import Derived.Outline
import Derived.Lib.Hide
import Derived.BigQuiet
import Derived.Deep.QuietTactic
import Derived.OpenShut
import Derived.Deep.Fields
import Derived.Deep.Slices
import Derived.ChangeSame
import Derived.Laws.AppendOwnNone
import Derived.Deep.RegionLaw
import Derived.Laws.BitsLemmas
import Derived.BigGuardPart
import Derived.Laws.ResultCell
set_option linter.unusedVariables false
namespace Go.Proofs.YtfihklpofmcfgaaGreat
open Go
theorem ret_int {k : IntKind} {a b : Int} (h : a = b) : Ending.returned (.int k a) = .returned (.int k b) := by rw [h]
end Go.Proofs.YtfihklpofmcfgaaGreat
namespace Go.Proofs.YtfihklpofmcfgaaGreat
open Go Go.RowKit
/-- the new element of an append, in the block that was made for it -/
theorem cell_new1 (w : World) (x : Value) (t : TypeId) : ∀ j u, [x][j]? = some u → (w.alloc (.cells #[x] t)).cell? ((⟨w.heap.size, 0, none⟩ : Addr).add j) = some u := by
  intro j u hu
  match j, hu with
  | 0, hu => simp at hu; subst hu; simp [Addr.add]
theorem one_cell1 (k : IntKind) (x : Int) : ∀ u ∈ [Value.int k x], u.oneCell' = true := by
  intro u hu; simp at hu; subst hu; rfl
end Go.Proofs.YtfihklpofmcfgaaGreat
namespace Go.Proofs.YtfihklpofmcfgaaGreat
open Go.RowKit
/-- the call returned v and at most drew -/
def Quiet (w : World) (v : Value) (e : Ending) (w' : World) : Prop := e = .returned v ∧ ∃ q, w' = w.drewN q
theorem below_drewN {B : Nat} {a w : World} (h : Below B a w) (n : Nat) : Below B a (w.drewN n) := ⟨h.os, h.tape, h.output, h.size, h.block⟩
end Go.Proofs.YtfihklpofmcfgaaGreat
namespace Go.Proofs.YtfihklpofmcfgaaGreat
open Go Go.RowKit
section
variable {w w' : World} {B n c s : Nat} {e : TypeId} {v : Value} {a : Option Addr} {xs : List Value}
theorem row_lt (h : w.ownsRow B e s v n xs) : ∀ k, v.ownBlock = some k → B ≤ k ∧ k < w.heap.size := fun k hk => h.lt k hk
theorem row_keep (h : w.ownsRow B e s v n xs) (hk : ∀ k, v.ownBlock = some k → w'.heap[k]? = w.heap[k]?) : w'.ownsRow B e s v n xs := by
  refine ⟨h.1, ?_⟩
  rcases h.2 with h | ⟨g, cap, cur, rfl, hB, hc, r⟩
  · exact .inl h
  · exact .inr ⟨g, cap, cur, rfl, hB, (hk g rfl).trans hc, r⟩
theorem row_below (h : w.ownsRow B e s v n xs) (hb : Below w.heap.size w w') : w'.ownsRow B e s v n xs := row_keep h fun k hk => hb.block k (row_lt h k hk).2
theorem row_mono {B' : Nat} (h : w.ownsRow B e s v n xs) (hB : B' ≤ B) : w.ownsRow B' e s v n xs := by
  refine ⟨h.1, ?_⟩
  rcases h.2 with h | ⟨g, cap, cur, hv, hg, r⟩
  · exact .inl h
  · exact .inr ⟨g, cap, cur, hv, Nat.le_trans hB hg, r⟩
theorem row_from (h : w.ownsRow B e s v n xs) : ∀ k, v.ownBlock = some k → B ≤ k := fun k hk => (row_lt h k hk).1
theorem row_val (h : w.ownsRow B e s v n xs) : ∃ a c, v = .slice a n c := by
  rcases h.2 with ⟨rfl, rfl⟩ | ⟨g, cap, cur, rfl, _⟩
  · exact ⟨_, _, rfl⟩
  · exact ⟨_, _, rfl⟩
theorem row_head (h : w.ownsRow B e s (.slice a n c) n xs) (h0 : 0 < n) : ∃ g, a = some ⟨g, 0, none⟩ := by
  rcases h.2 with ⟨_, hn⟩ | ⟨g, cap, cur, hv, _⟩
  · omega
  · simp only [Value.slice.injEq] at hv
    exact ⟨g, hv.1⟩
theorem row_cell (h : w.ownsRow B e 1 (.slice a n c) n xs) {j : Nat} (hj : j < n) : ∃ g, a = some ⟨g, 0, none⟩ ∧ g < w.heap.size ∧ w.cell? ⟨g, j, none⟩ = xs[j]? := by
  obtain ⟨g, rfl⟩ := row_head h (by omega)
  exact ⟨g, rfl, (row_lt h g rfl).2, h.cellAt j (by omega)⟩
end
/-- the operation changed blocks of F alone, and left the object in F' -/
structure Alters (F F' : Nat → Prop) (w w' : World) : Prop where
  os : w'.os = w.os
  tape : w'.tape = w.tape
  output : w'.output = w.output
  size : w.heap.size ≤ w'.heap.size
  block : ∀ k, k < w.heap.size → ¬ F k → w'.heap[k]? = w.heap[k]?
  foot : ∀ k, F' k → F k ∨ w.heap.size ≤ k
section
variable {F F' G : Nat → Prop} {w w' w0 : World} {B : Nat}
theorem Alters.below (h : Alters F F' w w') (hb : Below B w0 w) (hB : B ≤ w.heap.size) (hF : ∀ k, F k → B ≤ k) : Below B w0 w' :=
  hb.trans ⟨h.os, h.tape, h.output, h.size, fun k hk => h.block k (by omega) fun hf => by have := hF k hf; omega⟩
theorem Alters.from (h : Alters F F' w w') (hB : B ≤ w.heap.size) (hF : ∀ k, F k → B ≤ k) : ∀ k, F' k → B ≤ k := fun k hk => by
  rcases h.foot k hk with h1 | h1
  · exact hF k h1
  · omega
theorem Alters.apart (h : Alters F F' w w') (hG : ∀ k, G k → k < w.heap.size ∧ ¬ F k) : ∀ k, G k → k < w'.heap.size ∧ ¬ F' k := fun k hk => by
  obtain ⟨h1, h2⟩ := hG k hk
  refine ⟨Nat.lt_of_lt_of_le h1 h.size, fun h3 => ?_⟩
  rcases h.foot k h3 with h4 | h4
  · exact h2 h4
  · omega
theorem Alters.row {e : TypeId} {v : Value} {n s : Nat} {xs : List Value} (h : Alters F F' w w') (hr : w.ownsRow B e s v n xs) (hF : ∀ k, v.ownBlock = some k → ¬ F k) : w'.ownsRow B e s v n xs :=
  row_keep hr fun k hk => h.block k (row_lt hr k hk).2 (hF k hk)
theorem Alters.refl (w : World) (F : Nat → Prop) : Alters F F w w := ⟨rfl, rfl, rfl, Nat.le_refl _, fun _ _ _ => rfl, fun _ h => .inl h⟩
theorem Alters.of_below (hb : Below w.heap.size w w') : Alters F F w w' := ⟨hb.os, hb.tape, hb.output, hb.size, fun k hk _ => hb.block k hk, fun _ h => .inl h⟩
theorem below_foot (hb : Below w.heap.size w w') (hF : ∀ k, F k → k < w.heap.size) : ∀ k, F k → w'.heap[k]? = w.heap[k]? := fun k hk => hb.block k (hF k hk)
end
theorem Alters.trans {F F' F'' : Nat → Prop} {w w' w'' : World} (h : Alters F F' w w') (h' : Alters F' F'' w' w'') : Alters F F'' w w'' := by
  refine ⟨h'.os.trans h.os, h'.tape.trans h.tape, h'.output.trans h.output, Nat.le_trans h.size h'.size, fun k hk hF => ?_, fun k hk => ?_⟩
  · refine (h'.block k (Nat.lt_of_lt_of_le hk h.size) fun h1 => ?_).trans (h.block k hk hF)
    rcases h.foot k h1 with h2 | h2
    · exact hF h2
    · omega
  · rcases h'.foot k hk with h1 | h1
    · exact h.foot k h1
    · exact .inr (Nat.le_trans h.size h1)
open Go.Deep in
/-- every field of every element lies in its cell and reads -/
theorem fields_in {H : Type} {enc : TypeId × Value → H} {P : Program} {W : World} {t e : TypeId} {fs : Array Field} {a : Option Addr} {n cap fuel : Nat} {x : DataW H × List MemPlace}
    (ht : P.underlying t = some (.slice e)) (he : P.underlying e = some (.struct fs)) (hone : oneCellFields P fs = true) (hC : P.cellsOf e = fs.size)
    (h : DataW.trod enc P W 0 (fun _ => true) true fuel t (Value.slice a n cap).cells.toList = some x) :
    n ≤ cap ∧ cap ≤ maxLen ∧ ∀ i, i < n → ∀ (j : Nat) (f : Field), fs[j]? = some f → ∃ b off v y m, a = some ⟨b, off, none⟩ ∧ b < W.heap.size ∧ W.cell? ⟨b, off + (i * fs.size + j), none⟩ = some v ∧ DataW.trod enc P W 0 (fun _ => true) true m f.type [v] = some y := by
  rcases open_slice ht h with ⟨hcs, _⟩ | ⟨a', n', cap', m, k, D, Pl, hcs, _, hl, hm, hmm, _, hx⟩
  · simp [Value.cells] at hcs
    obtain ⟨rfl, rfl, rfl⟩ := hcs
    exact ⟨Nat.le_refl _, Nat.zero_le _, fun i hi => by omega⟩
  · simp [Value.cells] at hcs
    obtain ⟨rfl, rfl, rfl⟩ := hcs
    simp only [if_true] at hmm
    refine ⟨hl, hm, fun i hi j f hf => ?_⟩
    have cell : ∀ i, i < n → ∀ (j : Nat) (f : Field), fs[j]? = some f → ∃ v y k', W.cell? (a'.add (i * fs.size + j)) = some v ∧ DataW.trod enc P W 0 (fun _ => true) true k' f.type [v] = some y := fun i hi j f hf => by
      obtain ⟨cs, h1, h2⟩ := hx i (by omega)
      rw [hC] at h1
      obtain ⟨ys, k', _, _, hlen, hyl, hg⟩ := DataW.trod_struct he h2
      obtain ⟨_, hl2, hat⟩ := World.cells?_some h1
      obtain ⟨ho, hk⟩ := hone_of hone j f hf
      have hj : j < fs.size := (Array.getElem?_eq_some_iff.1 hf).1
      have h3 := hg j f hf
      rw [ho, hk, List.drop_eq_getElem_cons (by omega), List.take_succ_cons, List.take_zero, List.getElem?_eq_getElem (by omega)] at h3
      have h4 := hat j hj
      rw [List.getElem?_eq_getElem (by omega), add_add] at h4
      exact ⟨_, _, k', h4, h3⟩
    obtain ⟨v, y, k', h1, h2⟩ := cell i hi j f hf
    obtain ⟨b, off, spot⟩ := a'
    have hspot : spot = none := by
      have hj0 : 0 < fs.size := by have := (Array.getElem?_eq_some_iff.1 hf).1; omega
      obtain ⟨v0, y0, k0, h3, _⟩ := cell 0 (by omega) 0 (fs[0]'hj0) (Array.getElem?_eq_getElem hj0)
      simpa [Addr.add] using World.cell?_spot h3
    subst hspot
    have e : (⟨b, off, none⟩ : Addr).add (i * fs.size + j) = ⟨b, off + (i * fs.size + j), none⟩ := by unfold Addr.add; split <;> simp_all
    rw [e] at h1
    exact ⟨b, off, v, y, k', rfl, World.block_lt_of_cell? W _ h1, h1, h2⟩
end Go.Proofs.YtfihklpofmcfgaaGreat
namespace Go.Proofs.YtfihklpofmcfgaaGreat
open Go.RowKit
structure St where
  cap : Nat
  free : List Nat
  gen : Nat → Int
  on : Nat → Bool
namespace St
def init (n : Nat) : St := ⟨n, List.range' 1 n, fun _ => 0, fun _ => false⟩
def take (σ : St) (i : Nat) (t : List Nat) : St := ⟨σ.cap, t, fun j => if j = i then (σ.gen i + 1) % 4294967296 else σ.gen j, fun j => if j = i then true else σ.on j⟩
def put (σ : St) (i : Nat) : St := ⟨σ.cap, i :: σ.free, σ.gen, fun j => if j = i then false else σ.on j⟩
structure Ok (σ : St) : Prop where
  cap1 : 1 ≤ σ.cap
  cap2 : σ.cap ≤ 65536
  free : ∀ i, i ∈ σ.free ↔ 1 ≤ i ∧ i ≤ σ.cap ∧ σ.on i = false
  nodup : σ.free.Nodup
  on : ∀ i, σ.on i = true → 1 ≤ i ∧ i ≤ σ.cap
  gen : ∀ i, 0 ≤ σ.gen i ∧ σ.gen i < 4294967296
  out : ∀ i, i < 1 ∨ σ.cap < i → σ.gen i = 0
theorem init_ok {n : Nat} (h1 : 1 ≤ n) (h2 : n ≤ 65536) : (init n).Ok where
  cap1 := h1
  cap2 := h2
  free := fun i => by simp [init, List.mem_range'_1]; omega
  nodup := List.nodup_range'
  on := fun i h => by simp [init] at h
  gen := fun i => by simp [init]
  out := fun i _ => rfl
theorem take_ok {σ : St} (h : σ.Ok) {i : Nat} {t : List Nat} (hf : σ.free = i :: t) : (σ.take i t).Ok where
  cap1 := h.cap1
  cap2 := h.cap2
  free := fun j => by
    have hn := h.nodup
    rw [hf, List.nodup_cons] at hn
    have hj := h.free j
    rw [hf, List.mem_cons] at hj
    by_cases e : j = i
    · subst e
      simp [take, hn.1]
    · simp only [e, false_or] at hj
      simp [take, e, hj]
  nodup := by have hn := h.nodup; rw [hf, List.nodup_cons] at hn; exact hn.2
  on := fun j hj => by
    by_cases e : j = i
    · subst e
      have := (h.free j).1 (by rw [hf]; simp)
      exact ⟨this.1, this.2.1⟩
    · simp [take, e] at hj
      exact h.on j hj
  gen := fun j => by
    show 0 ≤ (if j = i then (σ.gen i + 1) % 4294967296 else σ.gen j) ∧ (if j = i then (σ.gen i + 1) % 4294967296 else σ.gen j) < 4294967296
    split
    · omega
    · exact h.gen j
  out := fun j hj => by
    have hi := (h.free i).1 (by rw [hf]; simp)
    show (if j = i then (σ.gen i + 1) % 4294967296 else σ.gen j) = 0
    have hj' : j < 1 ∨ σ.cap < j := hj
    rw [if_neg (by omega)]
    exact h.out j hj
theorem put_ok {σ : St} (h : σ.Ok) {i : Nat} (hi : σ.on i = true) : (σ.put i).Ok where
  cap1 := h.cap1
  cap2 := h.cap2
  free := fun j => by
    have hb := h.on i hi
    have hj := h.free j
    by_cases e : j = i
    · subst e; simp [put]; exact hb
    · simp [put, e, hj]
  nodup := by
    show (i :: σ.free).Nodup
    rw [List.nodup_cons]
    exact ⟨fun hm => by have := (h.free i).1 hm; rw [hi] at this; simp at this, h.nodup⟩
  on := fun j hj => by
    by_cases e : j = i
    · simp [put, e] at hj
    · simp [put, e] at hj
      exact h.on j hj
  gen := h.gen
  out := h.out
theorem nodup_le (n : Nat) : ∀ l : List Nat, l.Nodup → (∀ i ∈ l, 1 ≤ i ∧ i ≤ n) → l.length ≤ n := by
  induction n with
  | zero =>
    intro l _ h
    cases l with
    | nil => simp
    | cons i t => have := h i (by simp); omega
  | succ n ih =>
    intro l hn h
    by_cases hm : n + 1 ∈ l
    · have h1 := ih (l.erase (n + 1)) (hn.erase _) fun i hi => by
        have h2 := (hn.mem_erase_iff).1 hi
        have := h i h2.2
        have := h2.1
        omega
      rw [List.length_erase_of_mem hm] at h1
      omega
    · have h1 := ih l hn fun i hi => by
        have := h i hi
        have : i ≠ n + 1 := fun e => hm (e ▸ hi)
        omega
      omega
theorem Ok.len {σ : St} (h : σ.Ok) : σ.free.length ≤ σ.cap := nodup_le _ _ h.nodup fun i hi => by have := (h.free i).1 hi; omega
end St
def u32s (l : List Nat) : List Value := l.map fun (i : Nat) => .int .u32 (i : Int)
/-- the call returned v and wrote nothing that was there -/
def Calm (w : World) (v : Value) (e : Ending) (w' : World) : Prop := e = .returned v ∧ Below w.heap.size w w'
/-- what is asked of the program -/
structure Impl where
  Is : World → Value → St → (Nat → Prop) → Prop
  dom : ∀ {w p σ F}, Is w p σ F → ∀ k, F k → k < w.heap.size
  keep : ∀ {w w' p σ F}, Is w p σ F → (∀ k, F k → w'.heap[k]? = w.heap[k]?) → Is w' p σ F
  ok : ∀ {w p σ F}, Is w p σ F → σ.Ok
  ptr : ∀ {w p σ F}, Is w p σ F → ∃ a, p = .pointer (some a)
  new_ok : ∀ (n : Nat) (w : World), 1 ≤ n → n ≤ 65536 → Calls Tryz.prog 60 #[.int .i64 (n : Int)] w
    fun e w' => ∃ p F, e = .returned (.tuple #[p, .int .i64 0]) ∧ Is w' p (St.init n) F ∧ (∀ k, F k → w.heap.size ≤ k) ∧ Below w.heap.size w w'
  new_bad : ∀ (n : Int) (w : World), -9223372036854775808 ≤ n → n ≤ 9223372036854775807 → n < 1 ∨ 65536 < n → Calls Tryz.prog 60 #[.int .i64 n] w (Calm w (.tuple #[.pointer none, .int .i64 1]))
  alloc : ∀ (p : Value) (σ : St) (F : Nat → Prop) (w : World), Is w p σ F → Calls Tryz.prog 93 #[p] w
    fun e w' => ∃ F', Alters F F' w w' ∧ (σ.free = [] → e = .returned (.tuple #[.int .u32 0, .int .i64 2]) ∧ Is w' p σ F') ∧
      ∀ i t, σ.free = i :: t → e = .returned (.tuple #[.int .u32 (i : Int), .int .i64 0]) ∧ Is w' p (σ.take i t) F'
  release : ∀ (p : Value) (σ : St) (F : Nat → Prop) (i : Nat) (w : World), Is w p σ F → i < 4294967296 → Calls Tryz.prog 83 #[p, .int .u32 (i : Int)] w
    fun e w' => ∃ F', Alters F F' w w' ∧ (σ.on i = false → e = .returned (.int .i64 3) ∧ Is w' p σ F') ∧ (σ.on i = true → e = .returned (.int .i64 0) ∧ Is w' p (σ.put i) F')
  allocated : ∀ (p : Value) (σ : St) (F : Nat → Prop) (i : Nat) (w : World), Is w p σ F → i < 4294967296 → Calls Tryz.prog 42 #[p, .int .u32 (i : Int)] w (Quiet w (.bool (σ.on i)))
  generation : ∀ (p : Value) (σ : St) (F : Nat → Prop) (i : Nat) (w : World), Is w p σ F → i < 4294967296 → Calls Tryz.prog 43 #[p, .int .u32 (i : Int)] w (Quiet w (.int .u32 (σ.gen i)))
  freeN : ∀ (p : Value) (σ : St) (F : Nat → Prop) (w : World), Is w p σ F → Calls Tryz.prog 75 #[p] w (Quiet w (.int .i64 (σ.free.length : Int)))
  capacity : ∀ (p : Value) (σ : St) (F : Nat → Prop) (w : World), Is w p σ F → Calls Tryz.prog 76 #[p] w (Quiet w (.int .i64 (σ.cap : Int)))
  order : ∀ (p : Value) (σ : St) (F : Nat → Prop) (w : World), Is w p σ F → Calls Tryz.prog 44 #[p] w
    fun e w' => ∃ a c, e = .returned (.slice a σ.free.length c) ∧ w'.ownsRow w.heap.size 26 1 (.slice a σ.free.length c) σ.free.length (u32s σ.free) ∧ Below w.heap.size w w'
theorem Impl.below (I : Impl) {w w' : World} {p : Value} {σ : St} {F : Nat → Prop} (h : I.Is w p σ F) (hb : Below w.heap.size w w') : I.Is w' p σ F := I.keep h (below_foot hb (I.dom h))
end Go.Proofs.YtfihklpofmcfgaaGreat
namespace Go.Proofs.YtfihklpofmcfgaaGreat
structure Nd where
  key : Int
  val : Int
  left : Nat
  right : Nat
  size : Int
  sum : Int
  mn : Int
  mx : Int
def Nd.zero : Nd := ⟨0, 0, 0, 0, 0, 0, 0, 0⟩
structure Ar where
  σ : St
  nd : Nat → Nd
  cnt : Nat → Int
def hit (x i : Nat) : Nat := if x = i then 1 else 0
/-- the references to i from slot k -/
def Ar.edge (A : Ar) (k i : Nat) : Nat := if A.σ.on k = true then hit (A.nd k).left i + hit (A.nd k).right i else 0
def Ar.refs (A : Ar) (i : Nat) : Nat := ((List.range' 1 A.σ.cap).map fun k => A.edge k i).sum
structure Ar.Inv (A : Ar) (s : List Nat) (held : Nat → Nat) : Prop where
  ok : A.σ.Ok
  child : ∀ k, A.σ.on k = true → ((A.nd k).left = 0 ∨ A.σ.on (A.nd k).left = true) ∧ ((A.nd k).right = 0 ∨ A.σ.on (A.nd k).right = true)
  stack : ∀ i ∈ s, i = 0 ∨ A.σ.on i = true
  cnt : ∀ i, A.σ.on i = true → A.cnt i = ((A.refs i + s.count i + held i : Nat) : Int)
  pos : ∀ i, A.σ.on i = true → 1 ≤ A.cnt i
  held : ∀ i, 0 < held i → A.σ.on i = true
  off : ∀ i, A.σ.on i = false → A.cnt i = 0 ∧ A.nd i = Nd.zero
theorem sum_pull {l : List Nat} {i : Nat} (f : Nat → Nat) (hn : l.Nodup) (hi : i ∈ l) : (l.map f).sum = (l.map fun k => if k = i then 0 else f k).sum + f i := by
  induction l with
  | nil => simp at hi
  | cons a t ih =>
    rw [List.nodup_cons] at hn
    simp only [List.map_cons, List.sum_cons]
    rcases List.mem_cons.1 hi with rfl | h
    · rw [if_pos rfl]
      have : t.map (fun k => if k = i then 0 else f k) = t.map f := List.map_congr_left fun k hk => by
        have hne : ¬ k = i := fun e => by rw [e] at hk; exact hn.1 hk
        rw [if_neg hne]
      rw [this]; omega
    · have hne : a ≠ i := fun e => hn.1 (e ▸ h)
      rw [if_neg hne, ih hn.2 h]; omega
theorem sum_zero {l : List Nat} {f : Nat → Nat} (h : (l.map f).sum = 0) : ∀ k ∈ l, f k = 0 := by
  induction l with
  | nil => intro k hk; simp at hk
  | cons a t ih =>
    simp only [List.map_cons, List.sum_cons] at h
    intro k hk
    rcases List.mem_cons.1 hk with rfl | h2
    · omega
    · exact ih (by omega) k h2
theorem in_range {A : Ar} {s : List Nat} {held : Nat → Nat} (h : A.Inv s held) {i : Nat} (hi : A.σ.on i = true) : i ∈ List.range' 1 A.σ.cap := by
  have := h.ok.on i hi
  rw [List.mem_range'_1]; omega
/-- no slot refers to i -/
theorem no_refs {A : Ar} {s : List Nat} {held : Nat → Nat} (h : A.Inv s held) {i : Nat} (hr : A.refs i = 0) {k : Nat} (hk : A.σ.on k = true) : (A.nd k).left ≠ i ∧ (A.nd k).right ≠ i := by
  have h1 := sum_zero hr k (in_range h hk)
  unfold Ar.edge hit at h1
  rw [if_pos hk] at h1
  constructor
  · intro e; rw [if_pos e] at h1; omega
  · intro e; rw [if_pos e] at h1; omega
/-- the pending reference to the empty tree -/
theorem Ar.Inv.pop0 {A : Ar} {t : List Nat} {held : Nat → Nat} (h : A.Inv (0 :: t) held) : A.Inv t held := by
  refine ⟨h.ok, h.child, fun i hi => h.stack i (by simp [hi]), fun i hi => ?_, h.pos, h.held, h.off⟩
  have h1 := h.cnt i hi
  have h2 := h.ok.on i hi
  rw [List.count_cons, if_neg (by simp; omega)] at h1
  exact h1
def Ar.dec (A : Ar) (i : Nat) : Ar := ⟨A.σ, A.nd, fun j => if j = i then A.cnt i - 1 else A.cnt j⟩
theorem Ar.Inv.popDec {A : Ar} {i : Nat} {t : List Nat} {held : Nat → Nat} (h : A.Inv (i :: t) held) (hi : A.σ.on i = true) (hc : 2 ≤ A.cnt i) : (A.dec i).Inv t held := by
  refine ⟨h.ok, h.child, fun j hj => h.stack j (by simp [hj]), fun j hj => ?_, fun j hj => ?_, h.held, fun j hj => ?_⟩
  · have h1 := h.cnt j hj
    have e : (A.dec i).refs j = A.refs j := rfl
    show (if j = i then A.cnt i - 1 else A.cnt j) = _
    rw [e]
    rw [List.count_cons] at h1
    by_cases e2 : j = i
    · subst e2
      rw [if_pos rfl]
      simp at h1
      omega
    · rw [if_neg e2]
      rw [if_neg (by simp; exact fun e3 => e2 e3.symm)] at h1
      exact h1
  · show 1 ≤ (if j = i then A.cnt i - 1 else A.cnt j)
    split
    · omega
    · exact h.pos j hj
  · have hne : j ≠ i := fun e => by subst e; have hj' : A.σ.on j = false := hj; rw [hi] at hj'; cases hj'
    show (if j = i then A.cnt i - 1 else A.cnt j) = 0 ∧ _
    rw [if_neg hne]
    exact h.off j hj
def Ar.drop (A : Ar) (i : Nat) : Ar := ⟨A.σ.put i, fun j => if j = i then Nd.zero else A.nd j, fun j => if j = i then 0 else A.cnt j⟩
theorem put_off (σ : St) (i : Nat) : (σ.put i).on i = false := by simp [St.put]
theorem put_other (σ : St) {i j : Nat} (h : j ≠ i) : (σ.put i).on j = σ.on j := by simp [St.put, h]
theorem put_is {σ : St} {i j : Nat} (h : (σ.put i).on j = true) : j ≠ i ∧ σ.on j = true := by
  have hne : j ≠ i := fun e => by rw [e, put_off] at h; cases h
  exact ⟨hne, by rw [put_other σ hne] at h; exact h⟩
theorem Ar.Inv.popDrop {A : Ar} {i : Nat} {t : List Nat} {held : Nat → Nat} (h : A.Inv (i :: t) held) (hi : A.σ.on i = true) (hc : A.cnt i = 1) : (A.drop i).Inv ((A.nd i).left :: (A.nd i).right :: t) held := by
  have h1 := h.cnt i hi
  rw [List.count_cons_self] at h1
  have hr : A.refs i = 0 := by omega
  have ht : t.count i = 0 := by omega
  have hh : held i = 0 := by omega
  have hni : ∀ j ∈ t, j ≠ i := fun j hj e => by
    subst e
    have := List.count_pos_iff.2 hj
    omega
  have hch : ∀ x, (x = 0 ∨ A.σ.on x = true) → x ≠ i → x = 0 ∨ (A.σ.put i).on x = true := fun x hx hne => by
    rcases hx with hx | hx
    · exact .inl hx
    · exact .inr (by rw [put_other _ hne]; exact hx)
  have hci := no_refs h hr hi
  refine ⟨St.put_ok h.ok hi, fun k hk => ?_, fun j hj => ?_, fun j hj => ?_, fun j hj => ?_, fun j hj => ?_, fun j hj => ?_⟩
  · obtain ⟨hne, hk2⟩ := put_is hk
    have hn := no_refs h hr hk2
    have hc2 := h.child k hk2
    show ((if k = i then Nd.zero else A.nd k).left = 0 ∨ _) ∧ ((if k = i then Nd.zero else A.nd k).right = 0 ∨ _)
    rw [if_neg hne]
    show (_ ∨ (A.σ.put i).on (if k = i then Nd.zero else A.nd k).left = true) ∧ (_ ∨ (A.σ.put i).on (if k = i then Nd.zero else A.nd k).right = true)
    rw [if_neg hne]
    exact ⟨hch _ hc2.1 hn.1, hch _ hc2.2 hn.2⟩
  · rcases List.mem_cons.1 hj with rfl | hj
    · exact hch _ (h.child i hi).1 hci.1
    · rcases List.mem_cons.1 hj with rfl | hj
      · exact hch _ (h.child i hi).2 hci.2
      · exact hch _ (h.stack j (by simp [hj])) (hni j hj)
  · obtain ⟨hne, hj2⟩ := put_is hj
    have h2 := h.cnt j hj2
    have hrefs : A.refs j = (A.drop i).refs j + (hit (A.nd i).left j + hit (A.nd i).right j) := by
      unfold Ar.refs
      have e1 : ((List.range' 1 (A.drop i).σ.cap).map fun k => (A.drop i).edge k j) = (List.range' 1 A.σ.cap).map fun k => if k = i then 0 else A.edge k j := by
        refine List.map_congr_left fun k hk => ?_
        by_cases e : k = i
        · subst e
          rw [if_pos rfl]
          unfold Ar.edge
          rw [if_neg (by show ¬ (A.σ.put k).on k = true; rw [put_off]; simp)]
        · rw [if_neg e]
          unfold Ar.edge
          have e3 : (A.drop i).σ.on k = A.σ.on k := put_other _ e
          have e4 : (A.drop i).nd k = A.nd k := if_neg e
          rw [e3, e4]
      rw [e1, sum_pull (fun k => A.edge k j) List.nodup_range' (in_range h hi)]
      have e5 : A.edge i j = hit (A.nd i).left j + hit (A.nd i).right j := by unfold Ar.edge; rw [if_pos hi]
      omega
    show (if j = i then 0 else A.cnt j) = _
    rw [if_neg hne, h2, hrefs]
    simp only [List.count_cons]
    have e6 : ∀ x : Nat, (if (x == j) = true then 1 else 0) = hit x j := fun x => by unfold hit; simp
    rw [e6, e6, e6]
    have e7 : hit i j = 0 := by unfold hit; rw [if_neg (fun e => hne e.symm)]
    rw [e7]
    omega
  · obtain ⟨hne, hj2⟩ := put_is hj
    show 1 ≤ (if j = i then 0 else A.cnt j)
    rw [if_neg hne]
    exact h.pos j hj2
  · have h2 := h.held j hj
    have hne : j ≠ i := fun e => by rw [e] at hj; omega
    show (A.σ.put i).on j = true
    rw [put_other _ hne]; exact h2
  · show (if j = i then 0 else A.cnt j) = 0 ∧ (if j = i then Nd.zero else A.nd j) = Nd.zero
    by_cases e : j = i
    · rw [if_pos e, if_pos e]; exact ⟨rfl, rfl⟩
    · rw [if_neg e, if_neg e]
      exact h.off j (by have : (A.σ.put i).on j = false := hj; rw [put_other _ e] at this; exact this)
/-- a caller takes, or gives back, a reference -/
def Ar.inc (A : Ar) (i : Nat) : Ar := ⟨A.σ, A.nd, fun j => if j = i then A.cnt i + 1 else A.cnt j⟩
def more (held : Nat → Nat) (i : Nat) : Nat → Nat := fun j => if j = i then held i + 1 else held j
def less (held : Nat → Nat) (i : Nat) : Nat → Nat := fun j => if j = i then held i - 1 else held j
theorem Ar.Inv.inc {A : Ar} {i : Nat} {held : Nat → Nat} (h : A.Inv [] held) (hi : A.σ.on i = true) : (A.inc i).Inv [] (more held i) := by
  refine ⟨h.ok, h.child, fun j hj => by simp at hj, fun j hj => ?_, fun j hj => ?_, fun j hj => ?_, fun j hj => ?_⟩
  · have h1 := h.cnt j hj
    have e : (A.inc i).refs j = A.refs j := rfl
    show (if j = i then A.cnt i + 1 else A.cnt j) = _
    rw [e]
    unfold more
    by_cases e2 : j = i
    · subst e2; rw [if_pos rfl, if_pos rfl]; omega
    · rw [if_neg e2, if_neg e2]; exact h1
  · show 1 ≤ (if j = i then A.cnt i + 1 else A.cnt j)
    have h1 := h.pos j hj
    split
    · have := h.pos i hi; omega
    · exact h1
  · unfold more at hj
    by_cases e2 : j = i
    · subst e2; exact hi
    · rw [if_neg e2] at hj; exact h.held j hj
  · have hj' : A.σ.on j = false := hj
    have hne : j ≠ i := fun e => by subst e; rw [hi] at hj'; cases hj'
    show (if j = i then A.cnt i + 1 else A.cnt j) = 0 ∧ _
    rw [if_neg hne]
    exact h.off j hj'
/-- a held reference is to be removed: it lies on the work stack -/
theorem Ar.Inv.give {A : Ar} {i : Nat} {held : Nat → Nat} (h : A.Inv [] held) (hi : 0 < held i) : A.Inv [i] (less held i) := by
  refine ⟨h.ok, h.child, fun j hj => ?_, fun j hj => ?_, h.pos, fun j hj => ?_, h.off⟩
  · simp at hj; subst hj; exact .inr (h.held j hi)
  · have h1 := h.cnt j hj
    unfold less
    rw [List.count_cons]
    by_cases e : j = i
    · subst e
      rw [if_pos (by simp), if_pos rfl]
      simp at h1 ⊢
      omega
    · rw [if_neg (by simp; exact fun e2 => e e2.symm), if_neg e]
      exact h1
  · unfold less at hj
    by_cases e : j = i
    · subst e; exact h.held j hi
    · rw [if_neg e] at hj; exact h.held j hj
theorem Ar.Inv.give0 {A : Ar} {held : Nat → Nat} (h : A.Inv [] held) : A.Inv [0] held := by
  refine ⟨h.ok, h.child, fun j hj => by simp at hj; exact .inl hj, fun j hj => ?_, h.pos, h.held, h.off⟩
  have h1 := h.cnt j hj
  have h2 := h.ok.on j hj
  rw [List.count_cons, if_neg (by simp; omega)]
  exact h1
/-- the cascade: what is left and how many slots became free -/
def Ar.run : Nat → Ar → List Nat → Ar × Nat
  | 0, A, _ => (A, 0)
  | _ + 1, A, [] => (A, 0)
  | f + 1, A, i :: t =>
    if i = 0 then Ar.run f A t
    else if A.cnt i = 1 then ((Ar.run f (A.drop i) ((A.nd i).left :: (A.nd i).right :: t)).1, (Ar.run f (A.drop i) ((A.nd i).left :: (A.nd i).right :: t)).2 + 1)
    else Ar.run f (A.dec i) t
/-- with fuel enough the stack runs empty, the counts are right, and the number is that of the slots that became free -/
theorem Ar.run_ok : ∀ (f : Nat) (A : Ar) (s : List Nat) (held : Nat → Nat), A.Inv s held → 3 * (A.σ.cap - A.σ.free.length) + s.length ≤ f →
    (Ar.run f A s).1.Inv [] held ∧ (Ar.run f A s).1.σ.cap = A.σ.cap ∧ (Ar.run f A s).1.σ.free.length = A.σ.free.length + (Ar.run f A s).2
  | 0, A, s, held, h, hf => by
    obtain rfl : s = [] := List.eq_nil_of_length_eq_zero (by omega)
    exact ⟨h, rfl, rfl⟩
  | f + 1, A, [], held, h, hf => ⟨h, rfl, rfl⟩
  | f + 1, A, i :: t, held, h, hf => by
    simp only [List.length_cons] at hf
    unfold Ar.run
    by_cases h0 : i = 0
    · rw [if_pos h0]
      subst h0
      exact Ar.run_ok f A t held h.pop0 (by omega)
    · rw [if_neg h0]
      have hon : A.σ.on i = true := by rcases h.stack i (by simp) with h1 | h1; exact absurd h1 h0; exact h1
      have hp := h.pos i hon
      by_cases h1 : A.cnt i = 1
      · rw [if_pos h1]
        have hb := h.ok.len
        have hlt : A.σ.free.length < A.σ.cap := by
          have h2 := (St.put_ok h.ok hon).len
          have h3 : (A.σ.put i).free.length = A.σ.free.length + 1 := by simp [St.put]
          have h4 : (A.σ.put i).cap = A.σ.cap := rfl
          omega
        have hl : (A.drop i).σ.free.length = A.σ.free.length + 1 := by simp [Ar.drop, St.put]
        have hcp : (A.drop i).σ.cap = A.σ.cap := rfl
        have ih := Ar.run_ok f (A.drop i) ((A.nd i).left :: (A.nd i).right :: t) held (h.popDrop hon h1) (by rw [hl, hcp]; simp only [List.length_cons]; omega)
        exact ⟨ih.1, ih.2.1, by rw [ih.2.2, hl]; omega⟩
      · rw [if_neg h1]
        exact Ar.run_ok f (A.dec i) t held (h.popDec hon (by omega)) (by show 3 * (A.σ.cap - A.σ.free.length) + t.length ≤ f; omega)
def Ar.sz (A : Ar) (i : Nat) : Int := if i = 0 then 0 else (A.nd i).size
def Ar.sm (A : Ar) (i : Nat) : Int := if i = 0 then 0 else (A.nd i).sum
def Ar.low (A : Ar) (v : Int) (i : Nat) : Int := if i = 0 then v else min v (A.nd i).mn
def Ar.high (A : Ar) (v : Int) (i : Nat) : Int := if i = 0 then v else max v (A.nd i).mx
/-- the node with these children -/
def Ar.node (A : Ar) (key val : Int) (l r : Nat) : Nd :=
  ⟨key, val, l, r, 1 + A.sz l + A.sz r, IntKind.i64.wrap (IntKind.i64.wrap (val + A.sm l) + A.sm r), A.low (A.low val l) r, A.high (A.high val l) r⟩
/-- the aggregates of every node are those of its children -/
structure Ar.Agg (A : Ar) : Prop where
  node : ∀ k, A.σ.on k = true → A.nd k = A.node (A.nd k).key (A.nd k).val (A.nd k).left (A.nd k).right
  size : ∀ k, A.σ.on k = true → 1 ≤ (A.nd k).size ∧ (A.nd k).size ≤ 2147483647
theorem node_same {A B : Ar} {key val : Int} {l r : Nat} (hl : l = 0 ∨ A.nd l = B.nd l) (hr : r = 0 ∨ A.nd r = B.nd r) : A.node key val l r = B.node key val l r := by
  have h : ∀ x, (x = 0 ∨ A.nd x = B.nd x) → A.sz x = B.sz x ∧ A.sm x = B.sm x ∧ (∀ v, A.low v x = B.low v x) ∧ ∀ v, A.high v x = B.high v x := fun x hx => by
    rcases hx with rfl | hx
    · exact ⟨rfl, rfl, fun _ => rfl, fun _ => rfl⟩
    · unfold Ar.sz Ar.sm Ar.low Ar.high
      rw [hx]
      exact ⟨rfl, rfl, fun _ => rfl, fun _ => rfl⟩
  obtain ⟨h1, h2, h3, h4⟩ := h l hl
  obtain ⟨h5, h6, h7, h8⟩ := h r hr
  unfold Ar.node
  rw [h1, h2, h3, h4, h5, h6, h7, h8]
theorem Ar.Agg.dec {A : Ar} (h : A.Agg) (i : Nat) : (A.dec i).Agg := ⟨h.node, h.size⟩
theorem Ar.Agg.inc {A : Ar} (h : A.Agg) (i : Nat) : (A.inc i).Agg := ⟨h.node, h.size⟩
theorem Ar.Agg.drop {A : Ar} {i : Nat} {t : List Nat} {held : Nat → Nat} (h : A.Agg) (hI : A.Inv (i :: t) held) (hi : A.σ.on i = true) (hc : A.cnt i = 1) : (A.drop i).Agg := by
  have h1 := hI.cnt i hi
  rw [List.count_cons_self] at h1
  have hr : A.refs i = 0 := by omega
  refine ⟨fun k hk => ?_, fun k hk => ?_⟩
  · obtain ⟨hne, hk2⟩ := put_is hk
    have e : (A.drop i).nd k = A.nd k := if_neg hne
    have hn := no_refs hI hr hk2
    rw [e, h.node k hk2]
    show A.node _ _ _ _ = (A.drop i).node _ _ _ _
    have e1 : (A.drop i).nd (A.nd k).left = A.nd (A.nd k).left := if_neg hn.1
    have e2 : (A.drop i).nd (A.nd k).right = A.nd (A.nd k).right := if_neg hn.2
    exact node_same (.inr e1.symm) (.inr e2.symm)
  · obtain ⟨hne, hk2⟩ := put_is hk
    have e : (A.drop i).nd k = A.nd k := if_neg hne
    rw [e]
    exact h.size k hk2
theorem Ar.Agg.run : ∀ (f : Nat) (A : Ar) (s : List Nat) (held : Nat → Nat), A.Inv s held → A.Agg → (Ar.run f A s).1.Agg
  | 0, A, s, held, h, ha => ha
  | f + 1, A, [], held, h, ha => ha
  | f + 1, A, i :: t, held, h, ha => by
    unfold Ar.run
    by_cases h0 : i = 0
    · rw [if_pos h0]; subst h0
      exact Ar.Agg.run f A t held h.pop0 ha
    · rw [if_neg h0]
      have hon : A.σ.on i = true := by rcases h.stack i (by simp) with h1 | h1; exact absurd h1 h0; exact h1
      have hp := h.pos i hon
      by_cases h1 : A.cnt i = 1
      · rw [if_pos h1]
        exact Ar.Agg.run f (A.drop i) _ held (h.popDrop hon h1) (ha.drop h hon h1)
      · rw [if_neg h1]
        exact Ar.Agg.run f (A.dec i) t held (h.popDec hon (by omega)) (ha.dec i)
/-- a node is made in slot i; its children have one reference more -/
def Ar.made (A : Ar) (i : Nat) (t : List Nat) (x : Nd) : Ar :=
  ⟨A.σ.take i t, fun j => if j = i then x else A.nd j, fun j => if j = i then 1 else if j = 0 then A.cnt 0 else A.cnt j + (hit x.left j : Int) + (hit x.right j : Int)⟩
theorem take_is {σ : St} {i j : Nat} {t : List Nat} (h : (σ.take i t).on j = true) (hne : j ≠ i) : σ.on j = true := by simpa [St.take, hne] using h
theorem take_same (σ : St) (i : Nat) (t : List Nat) : (σ.take i t).on i = true := by simp [St.take]
theorem take_other (σ : St) {i j : Nat} (t : List Nat) (h : j ≠ i) : (σ.take i t).on j = σ.on j := by simp [St.take, h]
theorem Ar.Inv.made {A : Ar} {i : Nat} {t : List Nat} {x : Nd} {held : Nat → Nat} (h : A.Inv [] held) (hf : A.σ.free = i :: t) (hl : x.left = 0 ∨ A.σ.on x.left = true) (hr : x.right = 0 ∨ A.σ.on x.right = true) :
    (A.made i t x).Inv [] (more held i) := by
  have him := (h.ok.free i).1 (by rw [hf]; simp)
  obtain ⟨hi1, hi2, hoff⟩ := him
  have hhi : held i = 0 := by
    rcases Nat.eq_zero_or_pos (held i) with h1 | h1
    · exact h1
    · have := h.held i h1; rw [hoff] at this; cases this
  have hne : ∀ y, (y = 0 ∨ A.σ.on y = true) → y ≠ i := fun y hy e => by
    rcases hy with hy | hy
    · omega
    · rw [e, hoff] at hy; cases hy
  have hch : ∀ y, (y = 0 ∨ A.σ.on y = true) → (y = 0 ∨ (A.σ.take i t).on y = true) := fun y hy => by
    rcases hy with hy | hy
    · exact .inl hy
    · exact .inr (by rw [take_other _ _ (hne y (.inr hy))]; exact hy)
  have hrefs : ∀ j, (A.made i t x).refs j = A.refs j + (hit x.left j + hit x.right j) := fun j => by
    unfold Ar.refs
    have hmem : i ∈ List.range' 1 A.σ.cap := by rw [List.mem_range'_1]; omega
    have e0 : (A.made i t x).σ.cap = A.σ.cap := rfl
    rw [e0, sum_pull (fun k => (A.made i t x).edge k j) List.nodup_range' hmem, sum_pull (fun k => A.edge k j) List.nodup_range' hmem]
    have e1 : ((List.range' 1 A.σ.cap).map fun k => if k = i then 0 else (A.made i t x).edge k j) = (List.range' 1 A.σ.cap).map fun k => if k = i then 0 else A.edge k j := by
      refine List.map_congr_left fun k hk => ?_
      by_cases e : k = i
      · rw [if_pos e, if_pos e]
      · rw [if_neg e, if_neg e]
        unfold Ar.edge
        have e3 : (A.made i t x).σ.on k = A.σ.on k := take_other _ _ e
        have e4 : (A.made i t x).nd k = A.nd k := if_neg e
        rw [e3, e4]
    have e2 : (A.made i t x).edge i j = hit x.left j + hit x.right j := by
      unfold Ar.edge
      rw [if_pos (show (A.made i t x).σ.on i = true from take_same _ _ _)]
      have e4 : (A.made i t x).nd i = x := if_pos rfl
      rw [e4]
    have e5 : A.edge i j = 0 := by unfold Ar.edge; rw [if_neg (by rw [hoff]; simp)]
    rw [e1, e2, e5]
    omega
  have hri : A.refs i = 0 := by
    have : ∀ k ∈ List.range' 1 A.σ.cap, A.edge k i = 0 := fun k hk => by
      unfold Ar.edge
      split
      · rename_i hk2
        have hc := h.child k hk2
        unfold hit
        rw [if_neg (hne _ hc.1), if_neg (hne _ hc.2)]
      · rfl
    unfold Ar.refs
    rw [List.map_congr_left this]
    generalize List.range' 1 A.σ.cap = L
    induction L with
    | nil => rfl
    | cons a t ih => simpa using ih
  refine ⟨St.take_ok h.ok hf, fun k hk => ?_, fun j hj => by simp at hj, fun j hj => ?_, fun j hj => ?_, fun j hj => ?_, fun j hj => ?_⟩
  · by_cases e : k = i
    · have e4 : (A.made i t x).nd k = x := if_pos e
      rw [e4]
      exact ⟨hch _ hl, hch _ hr⟩
    · have e4 : (A.made i t x).nd k = A.nd k := if_neg e
      have hc := h.child k (take_is hk e)
      rw [e4]
      exact ⟨hch _ hc.1, hch _ hc.2⟩
  · rw [hrefs j]
    show (if j = i then 1 else if j = 0 then A.cnt 0 else A.cnt j + (hit x.left j : Int) + (hit x.right j : Int)) = _
    unfold more
    by_cases e : j = i
    · subst e
      rw [if_pos rfl, if_pos rfl, hri, hhi]
      have e1 : hit x.left j = 0 := by unfold hit; rw [if_neg (hne _ hl)]
      have e2 : hit x.right j = 0 := by unfold hit; rw [if_neg (hne _ hr)]
      rw [e1, e2]
      simp
    · rw [if_neg e, if_neg e]
      have hj2 := take_is hj e
      have hj1 := h.ok.on j hj2
      rw [if_neg (by omega), h.cnt j hj2]
      simp
      omega
  · show 1 ≤ (if j = i then 1 else if j = 0 then A.cnt 0 else A.cnt j + (hit x.left j : Int) + (hit x.right j : Int))
    by_cases e : j = i
    · rw [if_pos e]; exact Int.le_refl 1
    · rw [if_neg e]
      have hj2 := take_is hj e
      have hj1 := h.ok.on j hj2
      have hp := h.pos j hj2
      rw [if_neg (by omega)]
      omega
  · unfold more at hj
    by_cases e : j = i
    · subst e; exact take_same _ _ _
    · rw [if_neg e] at hj
      show (A.σ.take i t).on j = true
      rw [take_other _ _ e]; exact h.held j hj
  · have hne2 : j ≠ i := fun e => by rw [e] at hj; have h9 : (A.σ.take i t).on i = false := hj; rw [take_same] at h9; cases h9
    have hj' : A.σ.on j = false := by have h9 : (A.σ.take i t).on j = false := hj; rw [take_other _ _ hne2] at h9; exact h9
    have ho := h.off j hj'
    show (if j = i then 1 else if j = 0 then A.cnt 0 else A.cnt j + (hit x.left j : Int) + (hit x.right j : Int)) = 0 ∧ (if j = i then x else A.nd j) = Nd.zero
    rw [if_neg hne2, if_neg hne2]
    refine ⟨?_, ho.2⟩
    by_cases e0 : j = 0
    · rw [if_pos e0]; subst e0; exact ho.1
    · rw [if_neg e0, ho.1]
      have hz : ∀ y, (y = 0 ∨ A.σ.on y = true) → hit y j = 0 := fun y hy => by
        unfold hit
        rw [if_neg]
        intro e
        rcases hy with hy | hy
        · omega
        · rw [e, hj'] at hy; cases hy
      rw [hz _ hl, hz _ hr]
      simp
theorem Ar.Agg.made {A : Ar} {i : Nat} {t : List Nat} {key val : Int} {l r : Nat} {held : Nat → Nat} (h : A.Agg) (hI : A.Inv [] held) (hf : A.σ.free = i :: t) (hl : l = 0 ∨ A.σ.on l = true) (hr : r = 0 ∨ A.σ.on r = true) (hs : (A.node key val l r).size ≤ 2147483647) :
    (A.made i t (A.node key val l r)).Agg := by
  have him := (hI.ok.free i).1 (by rw [hf]; simp)
  obtain ⟨hi1, hi2, hoff⟩ := him
  have hne : ∀ y, (y = 0 ∨ A.σ.on y = true) → y = 0 ∨ A.nd y = (A.made i t (A.node key val l r)).nd y := fun y hy => by
    rcases hy with hy | hy
    · exact .inl hy
    · refine .inr (Eq.symm (if_neg fun e => ?_))
      rw [e, hoff] at hy; cases hy
  refine ⟨fun k hk => ?_, fun k hk => ?_⟩
  · by_cases e : k = i
    · have e4 : (A.made i t (A.node key val l r)).nd k = A.node key val l r := if_pos e
      rw [e4]
      exact node_same (hne _ hl) (hne _ hr)
    · have e4 : (A.made i t (A.node key val l r)).nd k = A.nd k := if_neg e
      have hk2 := take_is hk e
      have hc := hI.child k hk2
      rw [e4]
      exact (h.node k hk2).trans (node_same (hne _ hc.1) (hne _ hc.2))
  · by_cases e : k = i
    · have e4 : (A.made i t (A.node key val l r)).nd k = A.node key val l r := if_pos e
      rw [e4]
      refine ⟨?_, hs⟩
      have hz : ∀ y, (y = 0 ∨ A.σ.on y = true) → 0 ≤ A.sz y := fun y hy => by
        unfold Ar.sz
        split
        · exact Int.le_refl 0
        · rcases hy with hy | hy
          · contradiction
          · have := (h.size y hy).1; omega
      show 1 ≤ 1 + A.sz l + A.sz r
      have := hz l hl
      have := hz r hr
      omega
    · have e4 : (A.made i t (A.node key val l r)).nd k = A.nd k := if_neg e
      rw [e4]
      exact h.size k (take_is hk e)
/-- reached from a slot that is held -/
inductive Ar.Reach (A : Ar) (held : Nat → Nat) : Nat → Prop where
  | root (i : Nat) : 0 < held i → Ar.Reach A held i
  | left (k : Nat) : A.σ.on k = true → Ar.Reach A held k → Ar.Reach A held (A.nd k).left
  | right (k : Nat) : A.σ.on k = true → Ar.Reach A held k → Ar.Reach A held (A.nd k).right
theorem sum_pos {l : List Nat} {f : Nat → Nat} (h : 0 < (l.map f).sum) : ∃ k ∈ l, 0 < f k := by
  induction l with
  | nil => simp at h
  | cons a t ih =>
    simp only [List.map_cons, List.sum_cons] at h
    rcases Nat.eq_zero_or_pos (f a) with h1 | h1
    · obtain ⟨k, hk, h2⟩ := ih (by omega)
      exact ⟨k, by simp [hk], h2⟩
    · exact ⟨a, by simp, h1⟩
theorem Ar.reach_all {A : Ar} {held : Nat → Nat} (h : A.Inv [] held) (ha : A.Agg) : ∀ (n : Nat) (k : Nat), A.σ.on k = true → 2147483647 - (A.nd k).size < (n : Int) → A.Reach held k
  | 0, k, hk, hn => by have := (ha.size k hk).2; omega
  | n + 1, k, hk, hn => by
    have hc := h.cnt k hk
    have hp := h.pos k hk
    simp at hc
    rcases Nat.eq_zero_or_pos (held k) with h0 | h0
    · have hr : 0 < A.refs k := by omega
      obtain ⟨m, hm, he⟩ := sum_pos hr
      unfold Ar.edge at he
      split at he
      · rename_i hon
        have hz : ∀ y, (y = 0 ∨ A.σ.on y = true) → 0 ≤ A.sz y := fun y hy => by
          unfold Ar.sz
          split
          · exact Int.le_refl 0
          · rcases hy with hy | hy
            · contradiction
            · have := (ha.size y hy).1; omega
        have hch := h.child m hon
        have h1 := congrArg Nd.size (ha.node m hon)
        have h2 : (A.node (A.nd m).key (A.nd m).val (A.nd m).left (A.nd m).right).size = 1 + A.sz (A.nd m).left + A.sz (A.nd m).right := rfl
        rw [h2] at h1
        have h3 := hz _ hch.1
        have h4 := hz _ hch.2
        have hk1 := h.ok.on k hk
        have hks : A.sz k = (A.nd k).size := by unfold Ar.sz; rw [if_neg (by omega)]
        unfold hit at he
        by_cases hl : (A.nd m).left = k
        · rw [hl] at h1 h3
          have := Ar.reach_all h ha n m hon (by omega)
          rw [← hl]
          exact .left m hon this
        · rw [if_neg hl] at he
          by_cases hr2 : (A.nd m).right = k
          · rw [hr2] at h1 h4
            have := Ar.reach_all h ha n m hon (by omega)
            rw [← hr2]
            exact .right m hon this
          · rw [if_neg hr2] at he; omega
      · omega
    · exact .root k h0
/-- the least weight of a balanced tree of height h -/
def wt : Nat → Nat
  | 0 => 1
  | h + 1 => wt h + (wt h + 2) / 3
theorem wt_pos : ∀ h, 1 ≤ wt h
  | 0 => Nat.le_refl 1
  | h + 1 => by have := wt_pos h; unfold wt; omega
theorem wt_succ (h : Nat) : wt (h + 1) = wt h + (wt h + 2) / 3 := rfl
theorem wt_lt (h : Nat) : wt h < wt (h + 1) := by have := wt_pos h; rw [wt_succ]; omega
theorem wt_mono {h k : Nat} (hk : h ≤ k) : wt h ≤ wt k := by
  induction k with
  | zero => obtain rfl : h = 0 := by omega
            exact Nat.le_refl _
  | succ k ih =>
    by_cases e : h = k + 1
    · rw [e]; exact Nat.le_refl _
    · exact Nat.le_trans (ih (by omega)) (Nat.le_of_lt (wt_lt k))
theorem wt_big : 2147483648 < wt 80 := by decide
theorem wt_small : wt 80 < 1000000000000 := by decide
/-- the search from height h on -/
def xhF (n : Nat) : Nat → Nat → Nat
  | 0, h => h
  | f + 1, h => if wt (h + 1) - 1 ≤ n then xhF n f (h + 1) else h
def xh (n : Nat) : Nat := xhF n 80 0
def xhI (n : Int) : Int := if 0 ≤ n ∧ n ≤ 2147483647 then (xh n.toNat : Int) else -1
theorem xhF_spec (n : Nat) : ∀ f h, wt h - 1 ≤ n → wt (xhF n f h) - 1 ≤ n ∧ h ≤ xhF n f h ∧ xhF n f h ≤ h + f ∧ (xhF n f h < h + f → n < wt (xhF n f h + 1) - 1)
  | 0, h, hw => ⟨hw, Nat.le_refl _, Nat.le_refl _, fun h1 => by unfold xhF at h1; omega⟩
  | f + 1, h, hw => by
    unfold xhF
    split
    · next h1 =>
      have := xhF_spec n f (h + 1) h1
      exact ⟨this.1, by omega, by omega, fun h2 => this.2.2.2 (by omega)⟩
    · next h1 => exact ⟨hw, Nat.le_refl _, by omega, fun _ => by omega⟩
theorem xh_spec {n : Nat} (hn : n ≤ 2147483647) : wt (xh n) - 1 ≤ n ∧ xh n < 80 ∧ n < wt (xh n + 1) - 1 := by
  have h := xhF_spec n 80 0 (by unfold wt; omega)
  have hlt : xh n < 80 := by
    rcases Nat.lt_or_ge (xh n) 80 with h1 | h1
    · exact h1
    · have h2 := wt_mono h1
      have h3 := wt_big
      have h4 : wt (xh n) - 1 ≤ n := h.1
      omega
  exact ⟨h.1, hlt, h.2.2.2 (by unfold xh at hlt; omega)⟩
theorem xh_of {n h : Nat} (hn : n ≤ 2147483647) (h1 : wt h - 1 ≤ n) (h2 : n < wt (h + 1) - 1) : xh n = h := by
  obtain ⟨a, b, c⟩ := xh_spec hn
  rcases Nat.lt_trichotomy (xh n) h with h3 | h3 | h3
  · have := wt_mono (show xh n + 1 ≤ h by omega); omega
  · exact h3
  · have := wt_mono (show h + 1 ≤ xh n by omega); omega
theorem xh_le {n h : Nat} (hn : n ≤ 2147483647) (h1 : wt h - 1 ≤ n) : h ≤ xh n := by
  obtain ⟨a, b, c⟩ := xh_spec hn
  rcases Nat.lt_or_ge (xh n) h with h3 | h3
  · have := wt_mono (show xh n + 1 ≤ h by omega); omega
  · exact h3
/-- balanced, by numbers of keys -/
def bal (l r : Int) : Bool := decide (0 ≤ l ∧ l ≤ 2147483647 ∧ 0 ≤ r ∧ r ≤ 2147483647 ∧ l + 1 ≤ 3 * (r + 1) ∧ r + 1 ≤ 3 * (l + 1))
inductive Tr where
  | nil : Tr
  | node (i : Nat) (l r : Tr) : Tr
def Tr.size : Tr → Nat
  | .nil => 0
  | .node _ l r => l.size + r.size + 1
def Tr.ht : Tr → Nat
  | .nil => 0
  | .node _ l r => 1 + max l.ht r.ht
/-- the slots in the order of the keys -/
def Tr.idx : Tr → List Nat
  | .nil => []
  | .node i l r => l.idx ++ i :: r.idx
def Tr.keys (nd : Nat → Nd) (t : Tr) : List Int := t.idx.map fun i => (nd i).key
/-- index i of an arena unfolds into t -/
inductive Sub (A : Ar) : Nat → Tr → Prop where
  | nil : Sub A 0 .nil
  | node (i : Nat) (l r : Tr) : i ≠ 0 → A.σ.on i = true → Sub A (A.nd i).left l → Sub A (A.nd i).right r → Sub A i (.node i l r)
theorem Sub.idx {A : Ar} {i : Nat} {t : Tr} (h : Sub A i t) : (i = 0 ∨ A.σ.on i = true) := by
  cases h with
  | nil => exact .inl rfl
  | node i l r h0 h1 _ _ => exact .inr h1
theorem Sub.unique {A : Ar} {i : Nat} {t u : Tr} (h : Sub A i t) (h' : Sub A i u) : t = u := by
  induction h generalizing u with
  | nil => cases h' with
    | nil => rfl
    | node _ _ _ h0 => exact absurd rfl h0
  | node i l r h0 h1 _ _ ihl ihr => cases h' with
    | nil => exact absurd rfl h0
    | node _ l' r' _ _ hl hr => rw [ihl hl, ihr hr]
theorem Sub.size {A : Ar} {i : Nat} {t : Tr} (ha : A.Agg) (h : Sub A i t) : A.sz i = (t.size : Int) := by
  induction h with
  | nil => rfl
  | node i l r h0 h1 _ _ ihl ihr =>
    have e := congrArg Nd.size (ha.node i h1)
    unfold Ar.sz
    rw [if_neg h0, e]
    show 1 + A.sz _ + A.sz _ = _
    rw [ihl, ihr]
    show 1 + _ + _ = ((l.size + r.size + 1 : Nat) : Int)
    omega
theorem sz_child {A : Ar} (ha : A.Agg) {i : Nat} (hi : A.σ.on i = true) : (A.nd i).size = 1 + A.sz (A.nd i).left + A.sz (A.nd i).right := congrArg Nd.size (ha.node i hi)
theorem sz_nonneg {A : Ar} (ha : A.Agg) {i : Nat} (hi : (i = 0 ∨ A.σ.on i = true)) : 0 ≤ A.sz i := by
  unfold Ar.sz
  split
  · exact Int.le_refl 0
  · next h0 => have := (ha.size i (hi.resolve_left h0)).1; omega
/-- the traversal: the last key behind it, or none where it stops -/
def ordT (nd : Nat → Nd) : Tr → Option Int → Option (Option Int)
  | .nil, s => some s
  | .node i l r, s => match ordT nd l s with
    | none => none
    | some none => ordT nd r (some (nd i).key)
    | some (some k) => if (nd i).key ≤ k then none else ordT nd r (some (nd i).key)
/-- strictly ascending from behind s on -/
def Asc : Option Int → List Int → Prop
  | _, [] => True
  | none, k :: t => Asc (some k) t
  | some j, k :: t => j < k ∧ Asc (some k) t
def lastOf : Option Int → List Int → Option Int
  | s, [] => s
  | _, k :: t => lastOf (some k) t
theorem asc_app : ∀ (xs ys : List Int) (s : Option Int), Asc s (xs ++ ys) ↔ Asc s xs ∧ Asc (lastOf s xs) ys
  | [], ys, s => by simp [Asc, lastOf]
  | x :: xs, ys, none => by simp only [List.cons_append, Asc, lastOf]; exact asc_app xs ys (some x)
  | x :: xs, ys, some j => by simp only [List.cons_append, Asc, lastOf]; rw [asc_app xs ys (some x)]; exact and_assoc.symm
theorem last_app : ∀ (xs ys : List Int) (s : Option Int), lastOf s (xs ++ ys) = lastOf (lastOf s xs) ys
  | [], ys, s => rfl
  | x :: xs, ys, s => last_app xs ys (some x)
theorem ordT_spec (nd : Nat → Nd) : ∀ (t : Tr) (s : Option Int), (Asc s (t.keys nd) → ordT nd t s = some (lastOf s (t.keys nd))) ∧ (¬ Asc s (t.keys nd) → ordT nd t s = none)
  | .nil, s => ⟨fun _ => rfl, fun h => absurd trivial h⟩
  | .node i l r, s => by
    have hk : (Tr.node i l r).keys nd = l.keys nd ++ (nd i).key :: r.keys nd := by simp [Tr.keys, Tr.idx]
    obtain ⟨hl1, hl2⟩ := ordT_spec nd l s
    obtain ⟨hr1, hr2⟩ := ordT_spec nd r (some (nd i).key)
    rw [hk, asc_app, last_app]
    by_cases h1 : Asc s (l.keys nd)
    · have e1 := hl1 h1
      unfold ordT
      rw [e1]
      cases h2 : lastOf s (l.keys nd) with
      | none =>
        simp only [Asc, lastOf]
        exact ⟨fun h => hr1 h.2, fun h => hr2 fun h3 => h ⟨h1, h3⟩⟩
      | some k =>
        simp only [Asc, lastOf]
        by_cases h3 : (nd i).key ≤ k
        · rw [if_pos h3]
          exact ⟨fun h => absurd h.2.1 (by omega), fun _ => rfl⟩
        · rw [if_neg h3]
          exact ⟨fun h => hr1 h.2.2, fun h => hr2 fun h4 => h ⟨h1, by omega, h4⟩⟩
    · have e1 := hl2 h1
      unfold ordT
      rw [e1]
      exact ⟨fun h => absurd h.1 h1, fun _ => rfl⟩
def balT (A : Ar) : Tr → Bool
  | .nil => true
  | .node i l r => bal (A.sz (A.nd i).left) (A.sz (A.nd i).right) && balT A l && balT A r
theorem balT_ht {A : Ar} (ha : A.Agg) {i : Nat} {t : Tr} (h : Sub A i t) (hb : balT A t = true) : wt t.ht ≤ t.size + 1 := by
  induction h with
  | nil => exact Nat.le_refl 1
  | node i l r h0 h1 hl hr ihl ihr =>
    unfold balT at hb
    simp only [Bool.and_eq_true] at hb
    obtain ⟨⟨h2, h3⟩, h4⟩ := hb
    have h5 := ihl h3
    have h6 := ihr h4
    rw [Sub.size ha hl, Sub.size ha hr] at h2
    unfold bal at h2
    have h7 := of_decide_eq_true h2
    show wt (1 + max l.ht r.ht) ≤ l.size + r.size + 1 + 1
    rw [Nat.add_comm 1, wt_succ]
    rcases Nat.le_total l.ht r.ht with h8 | h8
    · rw [Nat.max_eq_right h8]; omega
    · rw [Nat.max_eq_left h8]; omega
theorem filter_lt {α : Type} {P Q : α → Bool} : ∀ {l : List α} {x : α}, x ∈ l → (∀ y, P y = true → Q y = true) → Q x = true → P x = false → (l.filter P).length + 1 ≤ (l.filter Q).length
  | a :: l, x, hx, h, hQ, hP => by
    have hle : ∀ m : List α, (m.filter P).length ≤ (m.filter Q).length := fun m => by
      induction m with
      | nil => exact Nat.le_refl _
      | cons b m ih =>
        simp only [List.filter_cons]
        cases hb : P b
        · cases hq : Q b <;> simp <;> omega
        · rw [h b hb]; simp; omega
    simp only [List.filter_cons]
    by_cases e : x = a
    · subst e
      rw [hP, hQ]
      have := hle l
      simp
      omega
    · have h1 := filter_lt (List.mem_of_ne_of_mem e hx) h hQ hP
      cases hb : P a
      · cases hq : Q a <;> simp <;> omega
      · rw [h a hb]; simp; omega
/-- the slots whose keys stand behind s -/
def Ar.above (A : Ar) (s : Option Int) : Nat := ((List.range' 1 A.σ.cap).filter fun i => A.σ.on i && (match s with | none => true | some k => decide (k < (A.nd i).key))).length
/-- the slots of size z at most -/
def Ar.upto (A : Ar) (z : Int) : Nat := ((List.range' 1 A.σ.cap).filter fun i => A.σ.on i && decide ((A.nd i).size ≤ z)).length
theorem Ar.upto_le (A : Ar) (z : Int) : A.upto z ≤ A.σ.cap := by
  unfold Ar.upto
  exact Nat.le_trans (List.length_filter_le _ _) (by simp)
theorem on_range {A : Ar} (h : A.σ.Ok) {i : Nat} (hi : A.σ.on i = true) : i ∈ List.range' 1 A.σ.cap := by
  have := h.on i hi
  rw [List.mem_range'_1]
  omega
theorem Ar.above_step {A : Ar} (h : A.σ.Ok) {i : Nat} (hi : A.σ.on i = true) {s : Option Int} (hs : ∀ k, s = some k → k < (A.nd i).key) : A.above (some (A.nd i).key) + 1 ≤ A.above s := by
  refine filter_lt (on_range h hi) (fun y hy => ?_) ?_ ?_
  · simp only [Bool.and_eq_true, decide_eq_true_eq] at hy ⊢
    refine ⟨hy.1, ?_⟩
    cases s with
    | none => rfl
    | some k => have := hs k rfl; exact decide_eq_true (by omega)
  · rw [hi]
    cases s with
    | none => rfl
    | some k => simpa using hs k rfl
  · rw [hi]; simp
theorem Sub.ht_le {A : Ar} (h : A.σ.Ok) (ha : A.Agg) {i : Nat} {t : Tr} (hs : Sub A i t) : t.ht ≤ A.upto (A.sz i) := by
  induction hs with
  | nil => exact Nat.zero_le _
  | node i l r h0 h1 hl hr ihl ihr =>
    have hsz := sz_child ha h1
    have e : A.sz i = (A.nd i).size := by unfold Ar.sz; rw [if_neg h0]
    have hln : 0 ≤ A.sz (A.nd i).left := by rw [hl.size ha]; omega
    have hrn : 0 ≤ A.sz (A.nd i).right := by rw [hr.size ha]; omega
    have key : ∀ z : Int, z < A.sz i → A.upto z + 1 ≤ A.upto (A.sz i) := fun z hz => by
      refine filter_lt (on_range h h1) (fun y hy => ?_) ?_ ?_
      · simp only [Bool.and_eq_true, decide_eq_true_eq] at hy ⊢
        exact ⟨hy.1, by omega⟩
      · rw [h1, e]; simp
      · rw [h1]; simp; omega
    have k1 := key _ (show A.sz (A.nd i).left < A.sz i by omega)
    have k2 := key _ (show A.sz (A.nd i).right < A.sz i by omega)
    show 1 + max l.ht r.ht ≤ _
    rcases Nat.le_total l.ht r.ht with h8 | h8
    · rw [Nat.max_eq_right h8]; omega
    · rw [Nat.max_eq_left h8]; omega
theorem Sub.ht_cap {A : Ar} (h : A.σ.Ok) (ha : A.Agg) {i : Nat} {t : Tr} (hs : Sub A i t) : t.ht ≤ A.σ.cap := Nat.le_trans (hs.ht_le h ha) (A.upto_le _)
open Go.RowKit
def Ar.init (n : Nat) : Ar := ⟨St.init n, fun _ => Nd.zero, fun _ => 0⟩
theorem Ar.init_inv {n : Nat} (h1 : 1 ≤ n) (h2 : n ≤ 65536) : (Ar.init n).Inv [] (fun _ => 0) :=
  ⟨St.init_ok h1 h2, (fun k hk => (by cases hk)), (fun i hi => (by cases hi)), (fun i hi => (by cases hi)), (fun i hi => (by cases hi)), (fun i hi => absurd hi (Nat.lt_irrefl 0)), (fun i hi => ⟨rfl, rfl⟩)⟩
theorem Ar.init_agg (n : Nat) : (Ar.init n).Agg := ⟨(fun k hk => (by cases hk)), (fun k hk => (by cases hk))⟩
/-- 0 or an allocated slot -/
def Ar.Idx (A : Ar) (i : Nat) : Prop := i = 0 ∨ A.σ.on i = true
/-- a reference more, of 0 none -/
def Ar.ret (A : Ar) (i : Nat) : Ar := if i = 0 then A else A.inc i
/-- the eight cells of a node -/
def ndV (x : Nd) : List Value := [.int .i64 x.key, .int .i64 x.val, .int .u32 (x.left : Int), .int .u32 (x.right : Int), .int .i64 x.size, .int .i64 x.sum, .int .i64 x.mn, .int .i64 x.mx]
/-- the cells of a slot's description -/
def slotV (A : Ar) (i : Nat) : List Value := [.bool (A.σ.on i), .int .i64 (A.cnt i), .int .u32 (A.σ.gen i)] ++ ndV (A.nd i)
def slotsV (A : Ar) : List Value := (List.range' 1 A.σ.cap).flatMap (slotV A)
/-- fuel enough for the cascade -/
def Ar.fuel (A : Ar) : Nat := 3 * A.σ.cap + 1
def Ar.gone (A : Ar) (i : Nat) : Ar := (Ar.run A.fuel A [i]).1
def Ar.freed (A : Ar) (i : Nat) : Nat := (Ar.run A.fuel A [i]).2
theorem Ar.gone_ok {A : Ar} {i : Nat} {held : Nat → Nat} (h : A.Inv [i] held) (ha : A.Agg) : (A.gone i).Inv [] held ∧ (A.gone i).Agg ∧ (A.gone i).σ.cap = A.σ.cap ∧ (A.gone i).σ.free.length = A.σ.free.length + A.freed i := by
  have h1 := Ar.run_ok A.fuel A [i] held h (by unfold Ar.fuel; simp; omega)
  exact ⟨h1.1, Ar.Agg.run A.fuel A [i] held h ha, h1.2.1, h1.2.2⟩
/-- what is asked of the program; rd: the reads that were counted -/
structure AImpl where
  Is : World → Value → Ar → Int → (Nat → Prop) → Prop
  dom : ∀ {w p A rd F}, Is w p A rd F → ∀ k, F k → k < w.heap.size
  keep : ∀ {w w' p A rd F}, Is w p A rd F → (∀ k, F k → w'.heap[k]? = w.heap[k]?) → Is w' p A rd F
  ok : ∀ {w p A rd F}, Is w p A rd F → A.σ.Ok
  ptr : ∀ {w p A rd F}, Is w p A rd F → ∃ a, p = .pointer (some a)
  new_ok : ∀ (n : Nat) (w : World), 1 ≤ n → n ≤ 65536 → Calls Tryz.prog 30 #[.int .i64 (n : Int)] w
    fun e w' => ∃ p F, e = .returned (.tuple #[p, .int .i64 0]) ∧ Is w' p (Ar.init n) 0 F ∧ (∀ k, F k → w.heap.size ≤ k) ∧ Below w.heap.size w w'
  new_bad : ∀ (n : Int) (w : World), -9223372036854775808 ≤ n → n ≤ 9223372036854775807 → n < 1 ∨ 65536 < n → Calls Tryz.prog 30 #[.int .i64 n] w (Calm w (.tuple #[.pointer none, .int .i64 1]))
  make : ∀ (p : Value) (A : Ar) (rd : Int) (F : Nat → Prop) (key val : Int) (l r : Nat) (held : Nat → Nat) (w : World), Is w p A rd F → A.Inv [] held → A.Agg → (∀ j, held j ≤ 1048576) → -9223372036854775808 ≤ key → key ≤ 9223372036854775807 → -9223372036854775808 ≤ val → val ≤ 9223372036854775807 → l < 4294967296 → r < 4294967296 →
    Calls Tryz.prog 65 #[p, .int .i64 key, .int .i64 val, .int .u32 (l : Int), .int .u32 (r : Int)] w
    fun e w' => ∃ F', Alters F F' w w' ∧
      (¬ (A.Idx l ∧ A.Idx r ∧ (A.node key val l r).size ≤ 2147483647) → e = .returned (.tuple #[.int .u32 0, .int .i64 1]) ∧ Is w' p A rd F') ∧
      (A.Idx l ∧ A.Idx r ∧ (A.node key val l r).size ≤ 2147483647 → A.σ.free = [] → e = .returned (.tuple #[.int .u32 0, .int .i64 2]) ∧ Is w' p A rd F') ∧
      (A.Idx l ∧ A.Idx r ∧ (A.node key val l r).size ≤ 2147483647 → ∀ i t, A.σ.free = i :: t → e = .returned (.tuple #[.int .u32 (i : Int), .int .i64 0]) ∧ Is w' p (A.made i t (A.node key val l r)) rd F')
  node : ∀ (p : Value) (A : Ar) (rd : Int) (F : Nat → Prop) (i : Nat) (w : World), Is w p A rd F → 0 ≤ rd → rd < 4611686018427387904 → i < 4294967296 → Calls Tryz.prog 95 #[p, .int .u32 (i : Int)] w
    fun e w' => ∃ F', Alters F F' w w' ∧ (A.σ.on i = false → e = .returned (.tuple #[.agg (ndV Nd.zero).toArray, .bool false]) ∧ Is w' p A rd F') ∧ (A.σ.on i = true → e = .returned (.tuple #[.agg (ndV (A.nd i)).toArray, .bool true]) ∧ Is w' p A (rd + 1) F')
  size : ∀ (p : Value) (A : Ar) (rd : Int) (F : Nat → Prop) (i : Nat) (w : World), Is w p A rd F → 0 ≤ rd → rd < 4611686018427387904 → i < 4294967296 → Calls Tryz.prog 27 #[p, .int .u32 (i : Int)] w
    fun e w' => ∃ F', Alters F F' w w' ∧ (A.σ.on i = false → e = .returned (.int .i64 0) ∧ Is w' p A rd F') ∧ (A.σ.on i = true → e = .returned (.int .i64 (A.nd i).size) ∧ Is w' p A (rd + 1) F')
  retain : ∀ (p : Value) (A : Ar) (rd : Int) (F : Nat → Prop) (i : Nat) (w : World), Is w p A rd F → i < 4294967296 → (A.σ.on i = true → A.cnt i < 4611686018427387904) → Calls Tryz.prog 37 #[p, .int .u32 (i : Int)] w
    fun e w' => ∃ F', Alters F F' w w' ∧ (¬ A.Idx i → e = .returned (.int .i64 3) ∧ Is w' p A rd F') ∧ (A.Idx i → e = .returned (.int .i64 0) ∧ Is w' p (A.ret i) rd F')
  release : ∀ (p : Value) (A : Ar) (rd : Int) (F : Nat → Prop) (i : Nat) (held : Nat → Nat) (w : World), Is w p A rd F → i < 4294967296 → (A.Idx i → A.Inv [i] held) → Calls Tryz.prog 14 #[p, .int .u32 (i : Int)] w
    fun e w' => ∃ F', Alters F F' w w' ∧ (¬ A.Idx i → e = .returned (.tuple #[.int .i64 0, .int .i64 3]) ∧ Is w' p A rd F') ∧ (A.Idx i → e = .returned (.tuple #[.int .i64 (A.freed i : Int), .int .i64 0]) ∧ Is w' p (A.gone i) rd F')
  freeN : ∀ (p : Value) (A : Ar) (rd : Int) (F : Nat → Prop) (w : World), Is w p A rd F → Calls Tryz.prog 51 #[p] w (Quiet w (.int .i64 (A.σ.free.length : Int)))
  capacity : ∀ (p : Value) (A : Ar) (rd : Int) (F : Nat → Prop) (w : World), Is w p A rd F → Calls Tryz.prog 81 #[p] w (Quiet w (.int .i64 (A.σ.cap : Int)))
  reads : ∀ (p : Value) (A : Ar) (rd : Int) (F : Nat → Prop) (w : World), Is w p A rd F → Calls Tryz.prog 16 #[p] w (Quiet w (.int .u64 rd))
  dump : ∀ (p : Value) (A : Ar) (rd : Int) (F : Nat → Prop) (w : World), Is w p A rd F → Calls Tryz.prog 10 #[p] w
    fun e w' => ∃ a c b d, e = .returned (.agg #[.slice a A.σ.cap c, .slice b A.σ.free.length d]) ∧ w'.ownsRow w.heap.size 87 11 (.slice a A.σ.cap c) A.σ.cap (slotsV A) ∧
      w'.ownsRow w.heap.size 26 1 (.slice b A.σ.free.length d) A.σ.free.length (u32s A.σ.free) ∧ Below w.heap.size w w'
theorem AImpl.below (I : AImpl) {w w' : World} {p : Value} {A : Ar} {rd : Int} {F : Nat → Prop} (h : I.Is w p A rd F) (hb : Below w.heap.size w w') : I.Is w' p A rd F := I.keep h (below_foot hb (I.dom h))
def RefOrder (w : World) (σ : St) (e : Ending) (w' : World) : Prop :=
  ∃ a c, e = .returned (.slice a σ.free.length c) ∧ w'.ownsRow w.heap.size 26 1 (.slice a σ.free.length c) σ.free.length (u32s σ.free) ∧ Below w.heap.size w w'
theorem u32s_snoc (l : List Nat) (i : Nat) : u32s (l ++ [i]) = u32s l ++ [.int .u32 (i : Int)] := by simp [u32s]
theorem u32sInfo : (Tryz.prog.info? 26).map (fun i => (i.zero, i.size, i.bytes)) = some (some (.int .u32 0), 1, 4) := by kernel_rfl
theorem u32s_get {l : List Nat} {j : Nat} (h : j < l.length) : (u32s l)[j]? = some (.int .u32 ((l.getD j 0 : Nat) : Int)) := by
  simp [u32s, List.getD_eq_getElem?_getD, h]
theorem drop_rev {l : List Nat} {j : Nat} (h : j < l.length) : (l.drop j).reverse = (l.drop (j + 1)).reverse ++ [l.getD j 0] := by
  rw [List.drop_eq_getElem_cons h, List.reverse_cons, List.getD_eq_getElem?_getD, List.getElem?_eq_getElem h]; rfl
theorem row_ne {w : World} {B B' n m s s' : Nat} {e e' : TypeId} {v x : Value} {xs ys : List Value} (hne : e ≠ e') (h : w.ownsRow B e s v n xs) (h' : w.ownsRow B' e' s' x m ys) : ∀ k, v.ownBlock = some k → x.ownBlock ≠ some k := by
  intro k h1 h2
  rcases h.2 with ⟨rfl, _⟩ | ⟨g, cap, cur, rfl, _, hc, _⟩
  · simp [Value.ownBlock] at h1
  · rcases h'.2 with ⟨rfl, _⟩ | ⟨g2, cap2, cur2, rfl, _, hc2, _⟩
    · simp [Value.ownBlock] at h2
    · simp only [Value.ownBlock, Option.some.injEq] at h1 h2
      subst h1 h2
      rw [hc] at hc2
      simp at hc2
      exact hne hc2.2
theorem row_cellset {w : World} {B n s : Nat} {e : TypeId} {v x : Value} {xs : List Value} {p : Addr} (h : w.ownsRow B e s v n xs) (hp : v.ownBlock ≠ some p.block) : (w.setCell p x).ownsRow B e s v n xs :=
  row_keep h fun k hk => heap_setCell_other _ _ _ _ fun e2 => hp (by rw [hk, e2])
theorem results_row_tmp {P : Program} {fn : Func} {p u : Tmp} {ty : TypeId} (h : fn.results = #[.cell p ty, .tmp u]) (tmps : Array Value) (w : World) (g : Nat) (t : TypeId) (cs : Array Value) (fr : Nat × Nat) (d : TypeDesc)
    (hp : tmps.getD p undef = .pointer (some ⟨g, 0, none⟩)) (hg : w.heap[g]? = some (.cells cs t fr))
    (hu : P.underlying ty = some d) (hd : (match d with | .struct _ | .array _ _ => true | _ => false) = true) (hi : (P.info? ty).map (·.size) = some cs.size) :
    (results fn tmps).run P w = .ok (.tuple #[.agg cs, tmps.getD u undef]) w := by
  rw [results_cell_tmp h]
  simp [hp, asAddr, Result.andThen, run_loadVar_row w g t ty cs fr d hg hu hd hi]
theorem size_set (w : World) (a : Addr) (v : Value) : (w.setCell a v).heap.size = w.heap.size := by simp [World.setCell]
theorem row_pre {w : World} {B n m c : Nat} {e : TypeId} {a : Option Addr} {xs : List Value} (h : w.ownsRow B e 1 (.slice a n c) n xs) (hm : m ≤ n) (h0 : 0 < n) : w.ownsRow B e 1 (.slice a m c) m (xs.take m) := by
  obtain ⟨g, rfl⟩ := row_head h h0
  have hl := h.1
  rcases h.2 with ⟨_, hn⟩ | ⟨g2, cap, cur, hv, hB, hc, hn, hcm, hs, ht⟩
  · omega
  · simp only [Value.slice.injEq, Option.some.injEq, Addr.mk.injEq] at hv
    obtain ⟨⟨rfl, _⟩, _, rfl⟩ := hv
    refine ⟨by simp; omega, .inr ⟨g, c, cur, rfl, hB, hc, by omega, hcm, hs, ?_⟩⟩
    rw [← ht, List.take_take]
    congr 1
    omega
theorem row_cap {w : World} {B n c : Nat} {e : TypeId} {a : Option Addr} {xs : List Value} (h : w.ownsRow B e 1 (.slice a n c) n xs) : n ≤ c := by
  rcases h.2 with ⟨hv, hn⟩ | ⟨g2, cap, cur, hv, hB, hc, hn, hcm, hs, ht⟩
  · omega
  · simp only [Value.slice.injEq] at hv
    obtain ⟨_, _, rfl⟩ := hv
    exact hn
end Go.Proofs.YtfihklpofmcfgaaGreat
