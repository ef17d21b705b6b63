/- What the statements on slots share: the sanity check returns true, a call's slot is a number of 32 bits, play leaves an allocator of the capacity asked. Condition: the program's functions keep their contracts. -/
import Derived.Test.YtfemdclfplgbfaaSlotsCon
import Derived.Test.YtfemdclfplgbfaaKitMod
import Derived.BigGuardPart
set_option linter.unusedVariables false
namespace Go.Proofs.Ytfemdclfplgbfaa
open Go.RowKit

/-- an allocator that the call made, alone in the blocks from B on -/
def Has (I : Impl) (B : Nat) (w : World) (p : Value) (σ : St) : Prop := ∃ F, I.Is w p σ F ∧ ∀ k, F k → B ≤ k
def NewPost (I : Impl) (n : Nat) (w : World) (e : Ending) (w' : World) : Prop :=
  ∃ a, e = .returned (.tuple #[.pointer (some a), .int .i64 0]) ∧ Has I w.heap.size w' (.pointer (some a)) (St.init n) ∧ Below w.heap.size w w'
theorem new_has (I : Impl) (n : Nat) (N : Int) (w : World) (h1 : 1 ≤ n) (h2 : n ≤ 65536) (hN : N = (n : Int)) : Calls Try.prog 8 #[.int .i64 N] w (NewPost I n w) := by
  subst hN
  refine (I.new_ok n w h1 h2).mono ?_
  rintro e w1 ⟨p, F, rfl, h, hF, hb⟩
  obtain ⟨a, rfl⟩ := I.ptr h
  exact ⟨a, rfl, ⟨F, h, hF⟩, hb⟩
/-- the call took the next slot -/
def TookPost (I : Impl) (B : Nat) (w0 w : World) (p : Value) (σ : St) (i : Nat) (t : List Nat) (e : Ending) (w' : World) : Prop :=
  e = .returned (.tuple #[.int .u32 (i : Int), .int .i64 0]) ∧ Has I B w' p (σ.take i t) ∧ Below B w0 w' ∧ w.heap.size ≤ w'.heap.size
def FullPost (I : Impl) (B : Nat) (w0 w : World) (p : Value) (σ : St) (e : Ending) (w' : World) : Prop :=
  e = .returned (.tuple #[.int .u32 0, .int .i64 2]) ∧ Has I B w' p σ ∧ Below B w0 w' ∧ w.heap.size ≤ w'.heap.size
theorem take_has (I : Impl) {B : Nat} {w0 w : World} {p : Value} {σ : St} {i : Nat} {t : List Nat} (h : Has I B w p σ) (hf : σ.free = i :: t) (hb : Below B w0 w) (hB : B ≤ w.heap.size) :
    Calls Try.prog 20 #[p] w (TookPost I B w0 w p σ i t) := by
  obtain ⟨F, h, hF⟩ := h
  refine (I.alloc p σ F w h).mono ?_
  rintro e w1 ⟨F', ha, _, h2⟩
  obtain ⟨rfl, h3⟩ := h2 i t hf
  exact ⟨rfl, ⟨F', h3, ha.from hB hF⟩, ha.below hb hB hF, ha.size⟩
theorem full_has (I : Impl) {B : Nat} {w0 w : World} {p : Value} {σ : St} (h : Has I B w p σ) (hf : σ.free = []) (hb : Below B w0 w) (hB : B ≤ w.heap.size) :
    Calls Try.prog 20 #[p] w (FullPost I B w0 w p σ) := by
  obtain ⟨F, h, hF⟩ := h
  refine (I.alloc p σ F w h).mono ?_
  rintro e w1 ⟨F', ha, h2, _⟩
  obtain ⟨rfl, h3⟩ := h2 hf
  exact ⟨rfl, ⟨F', h3, ha.from hB hF⟩, ha.below hb hB hF, ha.size⟩
def ReleasePost (I : Impl) (B : Nat) (w0 w : World) (p : Value) (σ : St) (i : Nat) (e : Ending) (w' : World) : Prop :=
  e = .returned (.int .i64 (if σ.on i = true then 0 else 3)) ∧ Has I B w' p (if σ.on i = true then σ.put i else σ) ∧ Below B w0 w' ∧ w.heap.size ≤ w'.heap.size
theorem release_has (I : Impl) {B : Nat} {w0 w : World} {p : Value} {σ : St} {i : Nat} {N : Int} (h : Has I B w p σ) (hi : i < 4294967296) (hN : N = (i : Int)) (hb : Below B w0 w) (hB : B ≤ w.heap.size) :
    Calls Try.prog 19 #[p, .int .u32 N] w (ReleasePost I B w0 w p σ i) := by
  subst hN
  obtain ⟨F, h, hF⟩ := h
  refine (I.release p σ F i w h hi).mono ?_
  rintro e w1 ⟨F', ha, h1, h2⟩
  by_cases ho : σ.on i = true
  · obtain ⟨rfl, h3⟩ := h2 ho
    exact ⟨by rw [if_pos ho], by rw [if_pos ho]; exact ⟨F', h3, ha.from hB hF⟩, ha.below hb hB hF, ha.size⟩
  · obtain ⟨rfl, h3⟩ := h1 (by simpa using ho)
    exact ⟨by rw [if_neg ho], by rw [if_neg ho]; exact ⟨F', h3, ha.from hB hF⟩, ha.below hb hB hF, ha.size⟩
theorem Has.ok {I : Impl} {B : Nat} {w : World} {p : Value} {σ : St} (h : Has I B w p σ) : σ.Ok := by obtain ⟨F, h, _⟩ := h; exact I.ok h
theorem Has.below {I : Impl} {B : Nat} {w w' : World} {p : Value} {σ : St} (h : Has I B w p σ) (hb : Below w.heap.size w w') : Has I B w' p σ := by
  obtain ⟨F, h, hF⟩ := h
  exact ⟨F, I.below h hb, hF⟩
theorem gen_has (I : Impl) {B : Nat} {w : World} {p : Value} {σ : St} {i : Nat} {N : Int} (h : Has I B w p σ) (hi : i < 4294967296) (hN : N = (i : Int)) :
    Calls Try.prog 15 #[p, .int .u32 N] w (Calm w (.int .u32 (σ.gen i))) := by
  subst hN
  obtain ⟨F, h, _⟩ := h
  exact (I.generation p σ F i w h hi).mono fun e w1 ⟨h1, q, h2⟩ => ⟨h1, by subst h2; exact below_drewN (Below.refl _ _) _⟩
theorem on_has (I : Impl) {B : Nat} {w : World} {p : Value} {σ : St} {i : Nat} {N : Int} (h : Has I B w p σ) (hi : i < 4294967296) (hN : N = (i : Int)) :
    Calls Try.prog 14 #[p, .int .u32 N] w (Calm w (.bool (σ.on i))) := by
  subst hN
  obtain ⟨F, h, _⟩ := h
  exact (I.allocated p σ F i w h hi).mono fun e w1 ⟨h1, q, h2⟩ => ⟨h1, by subst h2; exact below_drewN (Below.refl _ _) _⟩
theorem count_has (I : Impl) {B : Nat} {w : World} {p : Value} {σ : St} (h : Has I B w p σ) : Calls Try.prog 11 #[p] w (Calm w (.int .i64 (σ.free.length : Int))) := by
  obtain ⟨F, h, _⟩ := h
  exact (I.freeN p σ F w h).mono fun e w1 ⟨h1, q, h2⟩ => ⟨h1, by subst h2; exact below_drewN (Below.refl _ _) _⟩
theorem cap_has (I : Impl) {B : Nat} {w : World} {p : Value} {σ : St} (h : Has I B w p σ) : Calls Try.prog 12 #[p] w (Calm w (.int .i64 (σ.cap : Int))) := by
  obtain ⟨F, h, _⟩ := h
  exact (I.capacity p σ F w h).mono fun e w1 ⟨h1, q, h2⟩ => ⟨h1, by subst h2; exact below_drewN (Below.refl _ _) _⟩
/-- inside a region that reads: in whatever world of draws -/
theorem gen_q (I : Impl) {B d : Nat} {w : World} {p : Value} {σ : St} {i : Nat} {N : Int} (h : Has I B w p σ) (hi : i < 4294967296) (hN : N = (i : Int)) :
    Calls Try.prog 15 #[p, .int .u32 N] (w.drewN d) fun e w' => e = .returned (.int .u32 (σ.gen i)) ∧ ∃ m, w' = w.drewN m := by
  subst hN
  obtain ⟨F, h, _⟩ := h
  exact (I.generation p σ F i (w.drewN d) (I.keep h fun _ _ => rfl) hi).mono fun e w1 ⟨h1, q, h2⟩ => ⟨h1, d + q, by rw [h2, World.drewN_drewN]⟩
theorem on_q (I : Impl) {B d : Nat} {w : World} {p : Value} {σ : St} {i : Nat} {N : Int} (h : Has I B w p σ) (hi : i < 4294967296) (hN : N = (i : Int)) :
    Calls Try.prog 14 #[p, .int .u32 N] (w.drewN d) fun e w' => e = .returned (.bool (σ.on i)) ∧ ∃ m, w' = w.drewN m := by
  subst hN
  obtain ⟨F, h, _⟩ := h
  exact (I.allocated p σ F i (w.drewN d) (I.keep h fun _ _ => rfl) hi).mono fun e w1 ⟨h1, q, h2⟩ => ⟨h1, d + q, by rw [h2, World.drewN_drewN]⟩
theorem on_v (I : Impl) {B d : Nat} {w : World} {p : Value} {σ : St} {i : Nat} {N : Int} {b : Bool} (h : Has I B w p σ) (hi : i < 4294967296) (hb : σ.on i = b) (hN : N = (i : Int)) :
    Calls Try.prog 14 #[p, .int .u32 N] (w.drewN d) fun e w' => e = .returned (.bool b) ∧ ∃ m, w' = w.drewN m := by
  subst hb
  exact on_q I h hi hN
theorem gen_v (I : Impl) {B d : Nat} {w : World} {p : Value} {σ : St} {i : Nat} {N g : Int} (h : Has I B w p σ) (hi : i < 4294967296) (hg : σ.gen i = g) (hN : N = (i : Int)) :
    Calls Try.prog 15 #[p, .int .u32 N] (w.drewN d) fun e w' => e = .returned (.int .u32 g) ∧ ∃ m, w' = w.drewN m := by
  subst hg
  exact gen_q I h hi hN
def OrderPost (w : World) (σ : St) (e : Ending) (w' : World) : Prop :=
  ∃ a c, e = .returned (.slice a σ.free.length c) ∧ w'.ownsRow w.heap.size 31 1 (.slice a σ.free.length c) σ.free.length (u32s σ.free) ∧ Below w.heap.size w w'
theorem order_has (I : Impl) {B : Nat} {w : World} {p : Value} {σ : St} (h : Has I B w p σ) : Calls Try.prog 13 #[p] w (OrderPost w σ) := by
  obtain ⟨F, h, _⟩ := h
  exact I.order p σ F w h

set_option maxHeartbeats 1000000 in
set_option maxRecDepth 100000 in
theorem awake_any (I : Impl) (w : World) : Calls Try.prog 10 #[] w fun e w' => e = .returned (.bool true) ∧ Below w.heap.size w w' := by
  go_enter Try.func10, Try.ntmps10
  go_wp2_with fail
  refine (new_has I 3 3 _ (by decide) (by decide) rfl).mono ?_
  rintro e w1 ⟨a, rfl, h, hb⟩
  have hB := hb.size
  go_wp2_with fail
  refine (take_has I h (i := 1) (t := [2, 3]) rfl hb hB).mono ?_
  rintro e w2 ⟨rfl, h2, hb2, hs2⟩
  have hB2 := Nat.le_trans hB hs2
  clear h hb hB hs2
  go_wp2_with fail
  refine (take_has I h2 (i := 2) (t := [3]) rfl hb2 hB2).mono ?_
  rintro e w3 ⟨rfl, h3, hb3, hs3⟩
  have hB3 := Nat.le_trans hB2 hs3
  clear h2 hb2 hB2 hs3
  go_wp2_with fail
  refine (release_has I h3 (i := 1) (by decide) rfl hb3 hB3).mono ?_
  rintro e w4 ⟨rfl, h4, hb4, hs4⟩
  rw [if_pos (show (((St.init 3).take 1 [2, 3]).take 2 [3]).on 1 = true from rfl)] at h4 ⊢
  have hB4 := Nat.le_trans hB3 hs4
  clear h3 hb3 hB3 hs4
  go_wp2_with fail
  refine (take_has I h4 (i := 1) (t := [3]) rfl hb4 hB4).mono ?_
  rintro e w5 ⟨rfl, h5, hb5, hs5⟩
  have hB5 := Nat.le_trans hB4 hs5
  clear h4 hb4 hB4 hs5
  go_wp2_with fail
  refine (gen_has I h5 (i := 1) (by decide) rfl).mono ?_
  rintro e w6 ⟨rfl, hb6⟩
  rw [show (((((St.init 3).take 1 [2, 3]).take 2 [3]).put 1).take 1 [3]).gen 1 = 2 from rfl]
  have hb7 := hb5.trans (hb6.mono hB5)
  clear h5 hb5 hb6 hB5
  go_wp2
  go_ret
  exact ⟨rfl, hb7⟩
end Go.Proofs.Ytfemdclfplgbfaa
