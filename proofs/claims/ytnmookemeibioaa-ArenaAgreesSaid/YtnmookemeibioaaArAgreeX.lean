/- The program's arena and the reference's beside it. Condition: the program's functions and the reference's Make, Dump keep their contracts. -/
import Derived.Test.YtnmookemeibioaaRefArY
import Derived.Test.YtnmookemeibioaaArenaLaw
import Derived.Test.YtnmookemeibioaaRefArY
import Derived.Test.YtnmookemeibioaaLawArenaNewX
import Derived.Test.YtnmookemeibioaaPlay1
set_option linter.unusedVariables false
namespace Go.Proofs.Ytnmookemeibioaa
open Go.RowKit
structure AG (I : AImpl) (B : Nat) (w0 w : World) (p : Value) (q : Nat) (A : Ar) (rd : Int) (C : Ar) (rc : Int) (r : AL) (G : Nat → Prop) : Prop where
  prog : ∃ F, I.Is w p A rd F ∧ ∀ k, F k → B ≤ k ∧ ¬ FR q r k ∧ ¬ G k
  ref : RefAr B w q C rc r
  below : Below B w0 w
  hB : B ≤ w.heap.size
  gl : ∀ k, G k → k < w.heap.size ∧ B ≤ k ∧ ¬ FR q r k
section
variable {I : AImpl} {B q : Nat} {w0 w w' : World} {p : Value} {A A' C C' : Ar} {rd rd' rc rc' : Int} {r r' : AL} {G : Nat → Prop}
theorem fr_from (h : RefAr B w q C rc r) : ∀ k, FR q r k → B ≤ k := fun k hk => by
  have key : ∀ {s n c : Nat} {e : TypeId} {a : Option Addr} {xs : List Value}, w.ownsRow B e s (.slice a n c) n xs → (∃ x, a = some x ∧ x.block = k) → B ≤ k := fun {s n c e a xs} hr hk => by
    obtain ⟨x, rfl, rfl⟩ := hk
    exact row_from hr _ rfl
  rcases hk with rfl | hk | hk | hk | hk | hk
  · exact h.hq
  · exact key h.nodes hk
  · exact key h.cnts hk
  · exact key h.slots.stack hk
  · exact key h.slots.gen hk
  · exact key h.slots.on hk
theorem AG.calm (h : AG I B w0 w p q A rd C rc r G) (hb : Below w.heap.size w w') : AG I B w0 w' p q A rd C rc r G := by
  obtain ⟨F, h1, h2⟩ := h.prog
  exact ⟨⟨F, I.below h1 hb, h2⟩, h.ref.below hb, h.below.trans (hb.mono h.hB), Nat.le_trans h.hB hb.size, fun k hk => ⟨Nat.lt_of_lt_of_le (h.gl k hk).1 hb.size, (h.gl k hk).2⟩⟩
theorem AG.less {G' : Nat → Prop} (h : AG I B w0 w p q A rd C rc r G) (hg : ∀ k, G' k → G k) : AG I B w0 w p q A rd C rc r G' := by
  obtain ⟨F, h1, h2⟩ := h.prog
  exact ⟨⟨F, h1, fun k hk => ⟨(h2 k hk).1, (h2 k hk).2.1, fun hx => (h2 k hk).2.2 (hg k hx)⟩⟩, h.ref, h.below, h.hB, fun k hk => h.gl k (hg k hk)⟩
/-- a new block is a block beside both -/
theorem AG.box (h : AG I B w0 w p q A rd C rc r G) (hb : Below w.heap.size w w') : AG I B w0 w' p q A rd C rc r (fun k => G k ∨ (w.heap.size ≤ k ∧ k < w'.heap.size)) := by
  obtain ⟨F, h1, h2⟩ := h.prog
  have h3 := h.calm hb
  refine ⟨⟨F, I.below h1 hb, fun k hk => ⟨(h2 k hk).1, (h2 k hk).2.1, fun hx => ?_⟩⟩, h3.ref, h3.below, h3.hB, fun k hk => ?_⟩
  · rcases hx with hx | hx
    · exact (h2 k hk).2.2 hx
    · have := I.dom h1 k hk; omega
  · rcases hk with hk | hk
    · exact h3.gl k hk
    · exact ⟨hk.2, Nat.le_trans h.hB hk.1, fun hf => by have := h.ref.frLt k hf; omega⟩
theorem AG.pstep {F F' : Nat → Prop} (h : AG I B w0 w p q A rd C rc r G) (hF : ∀ k, F k → B ≤ k ∧ ¬ FR q r k ∧ ¬ G k) (ha : Alters F F' w w') (hs : I.Is w' p A' rd' F') : AG I B w0 w' p q A' rd' C rc r G ∧ ∀ k, G k → w'.heap[k]? = w.heap[k]? := by
  have h1 := ha.apart (G := fun k => FR q r k ∨ G k) (fun k hk => by
    rcases hk with hk | hk
    · exact ⟨h.ref.frLt k hk, fun hf => (hF k hf).2.1 hk⟩
    · exact ⟨(h.gl k hk).1, fun hf => (hF k hf).2.2 hk⟩)
  refine ⟨⟨⟨F', hs, fun k hk => ⟨ha.from h.hB (fun k hk => (hF k hk).1) k hk, fun hf => (h1 k (.inl hf)).2 hk, fun hg => (h1 k (.inr hg)).2 hk⟩⟩, h.ref.keepAll fun k hk => ha.block k (h.ref.frLt k hk) (fun hf => (hF k hf).2.1 hk), ha.below h.below h.hB (fun k hk => (hF k hk).1), Nat.le_trans h.hB ha.size, fun k hk => ⟨(h1 k (.inr hk)).1, (h.gl k hk).2⟩⟩, fun k hk => ha.block k (h.gl k hk).1 (fun hf => (hF k hf).2.2 hk)⟩
theorem AG.rstep (h : AG I B w0 w p q A rd C rc r G) (ha : Alters (FR q r) (FR q r') w w') (hs : RefAr B w' q C' rc' r') : AG I B w0 w' p q A rd C' rc' r' G ∧ ∀ k, G k → w'.heap[k]? = w.heap[k]? := by
  obtain ⟨F, h1, h2⟩ := h.prog
  have h3 := ha.apart (G := fun k => F k ∨ G k) (fun k hk => by
    rcases hk with hk | hk
    · exact ⟨I.dom h1 k hk, (h2 k hk).2.1⟩
    · exact ⟨(h.gl k hk).1, (h.gl k hk).2.2⟩)
  exact ⟨⟨⟨F, I.keep h1 fun k hk => ha.block k (I.dom h1 k hk) (h2 k hk).2.1, fun k hk => ⟨(h2 k hk).1, (h3 k (.inl hk)).2, (h2 k hk).2.2⟩⟩, hs, ha.below h.below h.hB (fr_from h.ref), Nat.le_trans h.hB ha.size, fun k hk => ⟨(h3 k (.inr hk)).1, (h.gl k hk).2.1, (h3 k (.inr hk)).2⟩⟩, fun k hk => ha.block k (h.gl k hk).1 (h.gl k hk).2.2⟩
theorem idx4 {i : Nat} (hok : A.σ.Ok) (hx : A.Idx i) : i < 4294967296 := by
  rcases hx with e | e
  · omega
  · have := hok.on i e; have := hok.cap2; omega
/-- what a call left: its answer, the state, the blocks beside it -/
def PRes (I : AImpl) (B : Nat) (w0 w : World) (p : Value) (q : Nat) (A : Ar) (rd : Int) (C : Ar) (rc : Int) (G : Nat → Prop) (v : Value) (e : Ending) (w' : World) : Prop :=
  ∃ r, e = .returned v ∧ AG I B w0 w' p q A rd C rc r G ∧ ∀ k, G k → w'.heap[k]? = w.heap[k]?
theorem ag_retain (h : AG I B w0 w p q A rd C rc r G) {i : Nat} (hi : i < 4294967296) (hx : A.Idx i) (hc : A.σ.on i = true → A.cnt i < 4611686018427387904) :
    Calls Try.prog 21 #[p, .int .u32 (i : Int)] w (PRes I B w0 w p q (A.ret i) rd C rc G (.int .i64 0)) := by
  obtain ⟨F, h1, h2⟩ := h.prog
  refine (I.retain p A rd F i w h1 hi hc).mono ?_
  rintro e w1 ⟨F', hal, _, h3⟩
  obtain ⟨rfl, h4⟩ := h3 hx
  exact ⟨r, rfl, h.pstep h2 hal h4⟩
theorem ag_retain_bad (h : AG I B w0 w p q A rd C rc r G) {i : Nat} (hi : i < 4294967296) (hx : ¬ A.Idx i) :
    Calls Try.prog 21 #[p, .int .u32 (i : Int)] w (PRes I B w0 w p q A rd C rc G (.int .i64 3)) := by
  obtain ⟨F, h1, h2⟩ := h.prog
  refine (I.retain p A rd F i w h1 hi (fun h => absurd (.inr h) hx)).mono ?_
  rintro e w1 ⟨F', hal, h3, _⟩
  obtain ⟨rfl, h4⟩ := h3 hx
  exact ⟨r, rfl, h.pstep h2 hal h4⟩
theorem ag_rretain (h : AG I B w0 w p q A rd C rc r G) (hok : C.σ.Ok) {i : Nat} (hi : i < 4294967296) (hx : C.Idx i) (hc : 0 ≤ C.cnt i ∧ C.cnt i < 4611686018427387904) :
    Calls Try.prog 22 #[.pointer (some ⟨q, 0, none⟩), .int .u32 (i : Int)] w (PRes I B w0 w p q A rd (C.ret i) rc G (.int .i64 0)) := by
  refine (rar_retain h.ref hok i hi hx hc.2 (by omega)).mono ?_
  rintro e w1 ⟨rfl, h3, hal⟩
  exact ⟨r, rfl, h.rstep hal h3⟩
theorem ag_rretain_bad (h : AG I B w0 w p q A rd C rc r G) (hok : C.σ.Ok) {i : Nat} (hi : i < 4294967296) (hx : ¬ C.Idx i) :
    Calls Try.prog 22 #[.pointer (some ⟨q, 0, none⟩), .int .u32 (i : Int)] w (PRes I B w0 w p q A rd C rc G (.int .i64 3)) := by
  refine (rar_retain_bad h.ref hok i hi hx).mono ?_
  rintro e w1 ⟨rfl, hb⟩
  exact ⟨r, rfl, h.calm hb, fun k hk => hb.block k (h.gl k hk).1⟩
theorem ag_release (h : AG I B w0 w p q A rd C rc r G) {i : Nat} {held : Nat → Nat} (hi : i < 4294967296) (hx : A.Idx i) (hI : A.Inv [i] held) :
    Calls Try.prog 25 #[p, .int .u32 (i : Int)] w (PRes I B w0 w p q (A.gone i) rd C rc G (.tuple #[.int .i64 (A.freed i : Int), .int .i64 0])) := by
  obtain ⟨F, h1, h2⟩ := h.prog
  refine (I.release p A rd F i held w h1 hi (fun _ => hI)).mono ?_
  rintro e w1 ⟨F', hal, _, h3⟩
  obtain ⟨rfl, h4⟩ := h3 hx
  exact ⟨r, rfl, h.pstep h2 hal h4⟩
theorem ag_release_bad (h : AG I B w0 w p q A rd C rc r G) {i : Nat} (hi : i < 4294967296) (hx : ¬ A.Idx i) :
    Calls Try.prog 25 #[p, .int .u32 (i : Int)] w (PRes I B w0 w p q A rd C rc G (.tuple #[.int .i64 0, .int .i64 3])) := by
  obtain ⟨F, h1, h2⟩ := h.prog
  refine (I.release p A rd F i (fun _ => 0) w h1 hi (fun h => absurd h hx)).mono ?_
  rintro e w1 ⟨F', hal, h3, _⟩
  obtain ⟨rfl, h4⟩ := h3 hx
  exact ⟨r, rfl, h.pstep h2 hal h4⟩
theorem ag_rrelease (h : AG I B w0 w p q A rd C rc r G) (hok : C.σ.Ok) {i : Nat} {held : Nat → Nat} (hi : i < 4294967296) (hx : C.Idx i) (hI : C.Inv [i] held) (hC : ∀ j, C.cnt j ≤ 4611686018427387904) :
    Calls Try.prog 26 #[.pointer (some ⟨q, 0, none⟩), .int .u32 (i : Int)] w (PRes I B w0 w p q A rd (C.gone i) rc G (.tuple #[.int .i64 (C.freed i : Int), .int .i64 0])) := by
  refine (rar_release h.ref hok i hi hx hI hC).mono ?_
  rintro e w1 ⟨r', rfl, h3, hal⟩
  exact ⟨r', rfl, h.rstep hal h3⟩
theorem ag_rrelease_bad (h : AG I B w0 w p q A rd C rc r G) (hok : C.σ.Ok) {i : Nat} (hi : i < 4294967296) (hx : ¬ C.Idx i) :
    Calls Try.prog 26 #[.pointer (some ⟨q, 0, none⟩), .int .u32 (i : Int)] w (PRes I B w0 w p q A rd C rc G (.tuple #[.int .i64 0, .int .i64 3])) := by
  refine (rar_release_bad h.ref hok i hi hx).mono ?_
  rintro e w1 ⟨rfl, hb⟩
  exact ⟨r, rfl, h.calm hb, fun k hk => hb.block k (h.gl k hk).1⟩
/-- a read is counted -/
def Ar.up (A : Ar) (i : Nat) (rd : Int) : Int := if A.σ.on i = true then rd + 1 else rd
theorem ag_node (h : AG I B w0 w p q A rd C rc r G) (hoff : ∀ i, A.σ.on i = false → A.nd i = Nd.zero) {i : Nat} (hi : i < 4294967296) (h0 : 0 ≤ rd) (h1 : rd < 4611686018427387904) :
    Calls Try.prog 27 #[p, .int .u32 (i : Int)] w (PRes I B w0 w p q A (A.up i rd) C rc G (.tuple #[.agg (ndA (A.nd i)), .bool (A.σ.on i)])) := by
  obtain ⟨F, g1, g2⟩ := h.prog
  refine (I.node p A rd F i w g1 h0 h1 hi).mono ?_
  rintro e w1 ⟨F', hal, h3, h4⟩
  cases hon : A.σ.on i with
  | false =>
    obtain ⟨rfl, h5⟩ := h3 hon
    unfold Ar.up
    rw [if_neg (by simp [hon]), hoff i hon]
    exact ⟨r, rfl, h.pstep g2 hal h5⟩
  | true =>
    obtain ⟨rfl, h5⟩ := h4 hon
    unfold Ar.up
    rw [if_pos hon]
    exact ⟨r, rfl, h.pstep g2 hal h5⟩
theorem ag_size (h : AG I B w0 w p q A rd C rc r G) (hoff : ∀ i, A.σ.on i = false → A.nd i = Nd.zero) {i : Nat} (hi : i < 4294967296) (h0 : 0 ≤ rd) (h1 : rd < 4611686018427387904) :
    Calls Try.prog 29 #[p, .int .u32 (i : Int)] w (PRes I B w0 w p q A (A.up i rd) C rc G (.int .i64 (A.nd i).size)) := by
  obtain ⟨F, g1, g2⟩ := h.prog
  refine (I.size p A rd F i w g1 h0 h1 hi).mono ?_
  rintro e w1 ⟨F', hal, h3, h4⟩
  cases hon : A.σ.on i with
  | false =>
    obtain ⟨rfl, h5⟩ := h3 hon
    unfold Ar.up
    rw [if_neg (by simp [hon]), hoff i hon]
    exact ⟨r, rfl, h.pstep g2 hal h5⟩
  | true =>
    obtain ⟨rfl, h5⟩ := h4 hon
    unfold Ar.up
    rw [if_pos hon]
    exact ⟨r, rfl, h.pstep g2 hal h5⟩
theorem ag_rnode (h : AG I B w0 w p q A rd C rc r G) (hok : C.σ.Ok) (hoff : ∀ i, C.σ.on i = false → C.nd i = Nd.zero) {i : Nat} (hi : i < 4294967296) (h0 : 0 ≤ rc) (h1 : rc < 4611686018427387904) :
    Calls Try.prog 28 #[.pointer (some ⟨q, 0, none⟩), .int .u32 (i : Int)] w (PRes I B w0 w p q A rd C (C.up i rc) G (.tuple #[.agg (ndA (C.nd i)), .bool (C.σ.on i)])) := by
  refine (rar_node h.ref hok hoff i hi h0 h1).mono ?_
  rintro e w1 ⟨rfl, h3, hal⟩
  exact ⟨r, rfl, h.rstep hal h3⟩
theorem ag_rsize (h : AG I B w0 w p q A rd C rc r G) (hok : C.σ.Ok) (hoff : ∀ i, C.σ.on i = false → C.nd i = Nd.zero) {i : Nat} (hi : i < 4294967296) (h0 : 0 ≤ rc) (h1 : rc < 4611686018427387904) :
    Calls Try.prog 30 #[.pointer (some ⟨q, 0, none⟩), .int .u32 (i : Int)] w (PRes I B w0 w p q A rd C (C.up i rc) G (.int .i64 (C.nd i).size)) := by
  refine (rar_size h.ref hok hoff i hi h0 h1).mono ?_
  rintro e w1 ⟨rfl, h3, hal⟩
  exact ⟨r, rfl, h.rstep hal h3⟩
end
end Go.Proofs.Ytnmookemeibioaa
set_option linter.unusedVariables false
namespace Go.Proofs.Ytnmookemeibioaa
open Go.RowKit
set_option maxHeartbeats 1000000 in
set_option maxRecDepth 100000 in
theorem slot_at (u : Int) (n : Nat) (h1 : 0 ≤ u) (h2 : u < 4294967296) (hn1 : 1 ≤ n) (hn2 : n ≤ 12) : ∃ y : Nat, y < 4294967296 ∧ ∀ w : World, Calls Try.prog 20 #[.int .u32 u, .int .i64 (n : Int)] w (fun e w' => e = .returned (.int .u32 (y : Int)) ∧ w' = w) := by
  have hni : (n : Int) ≤ 12 := by omega
  have hni0 : (1 : Int) ≤ (n : Int) := by omega
  by_cases hr : u % 23 = 22
  · refine ⟨u.toNat, by omega, fun w => ?_⟩
    rw [Int.toNat_of_nonneg h1]
    have hr2 : (u % 23 == 22) = true := by rw [hr]; rfl
    clear hn1 hn2 hr
    go_enter Try.func20, Try.ntmps20
    go_wp2_with fail
    go_ret
    exact ⟨rfl, rfl⟩
  · have hp : 0 ≤ u % ((n : Int) + 2) := Int.emod_nonneg u (by omega)
    have hl : u % ((n : Int) + 2) < (n : Int) + 2 := Int.emod_lt_of_pos u (by omega)
    refine ⟨(u % ((n : Int) + 2)).toNat, by omega, fun w => ?_⟩
    rw [Int.toNat_of_nonneg hp]
    have hr2 : (u % 23 == 22) = false := beq_eq_false_iff_ne.2 hr
    have HP := Lib.hid hp
    have HL := Lib.hid hl
    have hz : ((n : Int) + 2 == 0) = false := beq_eq_false_iff_ne.2 (by omega)
    have hz2 : ¬ ((n : Int) + 2 = 0) := by omega
    clear hn1 hn2 hr hp hl
    go_enter Try.func20, Try.ntmps20
    go_wp2_with fail
    go_ret
    exact ⟨rfl, rfl⟩
end Go.Proofs.Ytnmookemeibioaa
set_option linter.unusedVariables false
namespace Go.Proofs.Ytnmookemeibioaa
open Go.RowKit
section
variable {I : AImpl} {B q : Nat} {w0 w w' : World} {p : Value} {A A' C C' : Ar} {rd rd' rc rc' : Int} {r r' : AL} {G : Nat → Prop}
theorem ag_make (h : AG I B w0 w p q A rd C rc r G) {held : Nat → Nat} (hI : A.Inv [] held) (ha : A.Agg) (hm : ∀ j, held j ≤ 1048576) {key val : Int} {l rr i : Nat} {er : Int} (hk : -9223372036854775808 ≤ key ∧ key ≤ 9223372036854775807) (hv : -9223372036854775808 ≤ val ∧ val ≤ 9223372036854775807) (hl : l < 4294967296) (hr : rr < 4294967296) (ho : MkOut A key val l rr A' i er) :
    Calls Try.prog 34 #[p, .int .i64 key, .int .i64 val, .int .u32 (l : Int), .int .u32 (rr : Int)] w (PRes I B w0 w p q A' rd C rc G (.tuple #[.int .u32 (i : Int), .int .i64 er])) := by
  obtain ⟨F, h1, h2⟩ := h.prog
  refine (I.make p A rd F key val l rr held w h1 hI ha hm hk.1 hk.2 hv.1 hv.2 hl hr).mono ?_
  rintro e w1 ⟨F', hal, g1, g2, g3⟩
  rcases ho with ⟨h3, rfl, rfl, rfl⟩ | ⟨h3, h4, rfl, rfl, rfl⟩ | ⟨h3, rfl, t, h4, rfl⟩
  · obtain ⟨rfl, h5⟩ := g1 h3
    exact ⟨r, rfl, h.pstep h2 hal h5⟩
  · obtain ⟨rfl, h5⟩ := g2 h3 h4
    exact ⟨r, rfl, h.pstep h2 hal h5⟩
  · obtain ⟨rfl, h5⟩ := g3 h3 i t h4
    exact ⟨r, rfl, h.pstep h2 hal h5⟩
theorem inv_off {held : Nat → Nat} (hI : A.Inv [] held) : ∀ i, A.σ.on i = false → A.nd i = Nd.zero := fun i hi => (hI.off i hi).2
theorem inv_cnt {held : Nat → Nat} (hI : A.Inv [] held) (hm : ∀ j, held j ≤ 1048576) : ∀ i, 0 ≤ A.cnt i ∧ A.cnt i ≤ 1179648 := fun i => by
  cases hon : A.σ.on i with
  | true => have := cnt_le hI hm hon; omega
  | false => rw [(hI.off i hon).1]; exact ⟨Int.le_refl 0, by decide⟩
theorem ag_rmake (hmk : RMakeSpec) (h : AG I B w0 w p q A rd C rc r G) {held : Nat → Nat} (hI : C.Inv [] held) (ha : C.Agg) (hm : ∀ j, held j ≤ 1048576) {key val : Int} {l rr i : Nat} {er : Int} (hv : -9223372036854775808 ≤ val ∧ val ≤ 9223372036854775807) (hl : l < 4294967296) (hr : rr < 4294967296) (ho : MkOut C key val l rr C' i er) :
    Calls Try.prog 35 #[.pointer (some ⟨q, 0, none⟩), .int .i64 key, .int .i64 val, .int .u32 (l : Int), .int .u32 (rr : Int)] w (PRes I B w0 w p q A rd C' rc G (.tuple #[.int .u32 (i : Int), .int .i64 er])) := by
  refine (hmk _ _ _ _ _ _ _ _ _ _ _ _ _ h.ref hI.ok ha (inv_off hI) hl hr hv.1 hv.2 (inv_cnt hI hm) ho).mono ?_
  rintro e w1 ⟨r', rfl, h3, hal⟩
  exact ⟨r', rfl, h.rstep hal h3⟩
/-- what Make leaves keeps the counts -/
theorem mk_inv {held : Nat → Nat} (hI : A.Inv [] held) (ha : A.Agg) {key val : Int} {l rr i k : Nat} {er : Int} (hm : ∀ j, held j ≤ k) (ho : MkOut A key val l rr A' i er) : ∃ held', A'.Inv [] held' ∧ A'.Agg ∧ A'.σ.cap = A.σ.cap ∧ ∀ j, held' j ≤ k + 1 := by
  rcases ho with ⟨h3, rfl, rfl, rfl⟩ | ⟨h3, h4, rfl, rfl, rfl⟩ | ⟨h3, rfl, t, h4, rfl⟩
  · exact ⟨held, hI, ha, rfl, fun j => by have := hm j; omega⟩
  · exact ⟨held, hI, ha, rfl, fun j => by have := hm j; omega⟩
  · exact ⟨more held i, hI.made (x := A.node key val l rr) h4 h3.1 h3.2.1, ha.made hI h4 h3.1 h3.2.1 h3.2.2, rfl, more_small hm i⟩
theorem ag_cnt (h : AG I B w0 w p q A rd C rc r G) {i : Nat} (hi : i < 4294967296) : Calls Try.prog 31 #[p, .int .u32 (i : Int)] w (PRes I B w0 w p q A rd C rc G (.int .i64 (A.cnt i))) := by
  obtain ⟨F, h1, h2⟩ := h.prog
  refine (I.count p A rd F i w h1 hi).mono ?_
  rintro e w1 ⟨rfl, hb⟩
  exact ⟨r, rfl, h.calm hb, fun k hk => hb.block k (h.gl k hk).1⟩
theorem ag_gen (h : AG I B w0 w p q A rd C rc r G) {i : Nat} (hi : i < 4294967296) : Calls Try.prog 32 #[p, .int .u32 (i : Int)] w (fun e w' => e = .returned (.int .u32 (A.σ.gen i : Int)) ∧ AG I B w0 w' p q A rd C rc r G ∧ Below w.heap.size w w') := by
  obtain ⟨F, h1, h2⟩ := h.prog
  refine (I.generation p A rd F i w h1 hi).mono ?_
  rintro e w1 ⟨rfl, hb⟩
  exact ⟨rfl, h.calm hb, hb⟩
theorem ag_rcnt (h : AG I B w0 w p q A rd C rc r G) (hok : C.σ.Ok) (hoff : ∀ i, C.σ.on i = false → C.cnt i = 0) {i : Nat} (hi : i < 4294967296) : Calls Try.prog 23 #[.pointer (some ⟨q, 0, none⟩), .int .u32 (i : Int)] w (fun e w' => e = .returned (.int .i64 (C.cnt i)) ∧ AG I B w0 w' p q A rd C rc r G ∧ Below w.heap.size w w') := by
  refine (rar_counted h.ref hok hoff i hi).mono ?_
  rintro e w1 ⟨rfl, hb⟩
  exact ⟨rfl, h.calm hb, hb⟩
theorem ag_start {n : Nat} {F : Nat → Prop} {w1 w2 : World} (hI : I.Is w1 p (Ar.init n) 0 F) (hF : ∀ k, F k → w.heap.size ≤ k) (hb1 : Below w.heap.size w w1) (hR : RefAr w1.heap.size w2 q (Ar.init n) 0 r) (hb2 : Below w1.heap.size w1 w2) : AG I w.heap.size w w2 p q (Ar.init n) 0 (Ar.init n) 0 r (fun _ => False) := by
  have hs := hb1.size
  refine ⟨⟨F, I.below hI hb2, fun k hk => ⟨hF k hk, fun hf => ?_, fun h => h⟩⟩, ⟨hR.box, hR.slots.mono2 hs, row_mono hR.nodes hs, row_mono hR.cnts hs, Nat.le_trans hs hR.hq⟩, hb1.trans (hb2.mono hs), Nat.le_trans hs hb2.size, fun k hk => hk.elim⟩
  have := fr_from hR k hf
  have := I.dom hI k hk
  omega
/-- what lies at hand when a round begins -/
def EndRel (I : AImpl) (w : World) (p : Value) (q n k : Nat) (wr : World) : Prop :=
  ∃ (A : Ar) (rd : Int) (r : AL) (held : Nat → Nat), A.σ.cap = n ∧ A.Inv [] held ∧ A.Agg ∧ (∀ j, held j ≤ k) ∧ 0 ≤ rd ∧ rd ≤ 2 * (k : Int) ∧ AG I w.heap.size w wr p q A rd A rd r (fun _ => False)
theorem up_le (A : Ar) (i : Nat) (rd : Int) : rd ≤ A.up i rd ∧ A.up i rd ≤ rd + 1 := by
  unfold Ar.up
  split <;> omega
theorem gone_cap {i : Nat} {held : Nat → Nat} (h : A.Inv [i] held) (ha : A.Agg) : (A.gone i).Inv [] held ∧ (A.gone i).Agg ∧ (A.gone i).σ.cap = A.σ.cap ∧ A.freed i ≤ 65536 := by
  obtain ⟨h1, h2, h3, h4⟩ := Ar.gone_ok h ha
  have := h1.ok.len
  have := h1.ok.cap2
  exact ⟨h1, h2, h3, by omega⟩
theorem ret_inv {held : Nat → Nat} (hI : A.Inv [] held) (ha : A.Agg) {i k : Nat} (hm : ∀ j, held j ≤ k) (hx : A.Idx i) : ∃ held', (A.ret i).Inv [] held' ∧ (A.ret i).Agg ∧ (A.ret i).σ.cap = A.σ.cap ∧ ∀ j, held' j ≤ k + 1 := by
  by_cases h0 : i = 0
  · refine ⟨held, ?_, ?_, ?_, fun j => by have := hm j; omega⟩ <;> (unfold Ar.ret; rw [if_pos h0]; try (first | exact hI | exact ha))
  · have hon : A.σ.on i = true := by rcases hx with e | e; exact absurd e h0; exact e
    refine ⟨more held i, ?_, ?_, ?_, more_small hm i⟩
    · unfold Ar.ret; rw [if_neg h0]; exact hI.inc hon
    · unfold Ar.ret; rw [if_neg h0]; exact ha.inc i
    · unfold Ar.ret; rw [if_neg h0]; rfl
theorem less_le {held : Nat → Nat} {k : Nat} (hm : ∀ j, held j ≤ k) (i : Nat) : ∀ j, less held i j ≤ k + 1 := fun j => by
  unfold less
  split
  · have := hm i; omega
  · have := hm j; omega
end
end Go.Proofs.Ytnmookemeibioaa
set_option linter.unusedVariables false
namespace Go.Proofs.Ytnmookemeibioaa
open Go.RowKit
section
variable {I : AImpl} {B q : Nat} {w0 w w' : World} {p : Value} {A A' C C' : Ar} {rd rd' rc rc' : Int} {r r' : AL} {G : Nat → Prop}
theorem AG.six (h : AG I B w0 w p q A rd C rc r G) : w.cell? ⟨q, 0, none⟩ = some (.int .i64 (C.σ.cap : Int)) ∧ w.cell? ⟨q, 1, none⟩ = some (.slice r.sa r.st.length r.sc) ∧ w.cell? ⟨q, 2, none⟩ = some (.int .i64 (r.fr : Int)) ∧ w.cell? ⟨q, 3, none⟩ = some (.slice r.ga C.σ.cap r.gc) ∧ w.cell? ⟨q, 4, none⟩ = some (.slice r.oa C.σ.cap r.oc) ∧ w.cell? ⟨q, 7, none⟩ = some (.int .u64 rc) := by
  have hx := h.ref.box
  unfold arV at hx
  obtain ⟨c0, c1, c2, c3, c4, _, _, c7⟩ := row8 hx
  exact ⟨c0, c1, c2, c3, c4, c7⟩
theorem ag_free (h : AG I B w0 w p q A rd C rc r G) : Calls Try.prog 13 #[p] w (Calm w (.int .i64 (A.σ.free.length : Int))) := by
  obtain ⟨F, h1, h2⟩ := h.prog
  refine (I.freeN p A rd F w h1).mono ?_
  rintro e w1 ⟨rfl, d, rfl⟩
  exact ⟨rfl, below_drewN (Below.refl _ _) d⟩
theorem ag_reads (h : AG I B w0 w p q A rd C rc r G) : Calls Try.prog 15 #[p] w (Calm w (.int .u64 rd)) := by
  obtain ⟨F, h1, h2⟩ := h.prog
  refine (I.reads p A rd F w h1).mono ?_
  rintro e w1 ⟨rfl, d, rfl⟩
  exact ⟨rfl, below_drewN (Below.refl _ _) d⟩
theorem ag_order (h : AG I B w0 w p q A rd C rc r G) (hok : C.σ.Ok) : Calls Try.prog 36 #[.agg #[.int .i64 (C.σ.cap : Int), .slice r.sa r.st.length r.sc, .int .i64 (r.fr : Int), .slice r.ga C.σ.cap r.gc, .slice r.oa C.σ.cap r.oc]] w
    (fun e w' => ∃ a c, e = .returned (.slice a C.σ.free.length c) ∧ Below w.heap.size w w') := by
  refine (ref_order h.ref.slots hok).mono ?_
  rintro e w1 ⟨a, c, rfl, _, hb⟩
  exact ⟨a, c, rfl, hb⟩
theorem ag_rgen (h : AG I B w0 w p q A rd C rc r G) (hok : C.σ.Ok) {i : Nat} (hi : i < 4294967296) : Calls Try.prog 33 #[.agg #[.int .i64 (C.σ.cap : Int), .slice r.sa r.st.length r.sc, .int .i64 (r.fr : Int), .slice r.ga C.σ.cap r.gc, .slice r.oa C.σ.cap r.oc], .int .u32 (i : Int)] w
    (fun e w' => e = .returned (.int .u32 (C.σ.gen i : Int)) ∧ AG I B w0 w' p q A rd C rc r G ∧ Below w.heap.size w w') := by
  refine (ref_gen h.ref.slots hok i hi).mono ?_
  rintro e w1 ⟨rfl, hb⟩
  exact ⟨rfl, h.calm hb, hb⟩
def DumpAt (w : World) (A : Ar) (e : Ending) (w' : World) : Prop :=
  ∃ a c b d B, e = .returned (.agg #[.slice a A.σ.cap c, .slice b A.σ.free.length d]) ∧ SlotsAt w' a A.σ.cap A.sl ∧ w'.ownsRow B 41 1 (.slice b A.σ.free.length d) A.σ.free.length (u32s A.σ.free) ∧ Below w.heap.size w w'
theorem ag_dump (h : AG I B w0 w p q A rd C rc r G) {held : Nat → Nat} (hI : A.Inv [] held) : Calls Try.prog 17 #[p] w (DumpAt w A) := by
  obtain ⟨F, h1, h2⟩ := h.prog
  refine (I.dump p A rd F w h1).mono ?_
  rintro e w1 ⟨a, c, b, d, rfl, hs, hf, hb⟩
  exact ⟨a, c, b, d, _, rfl, slots_at hI hs, hf, hb⟩
theorem ag_rdump (hdump : RefDumpSpec) (h : AG I B w0 w p q A rd C rc r G) {held : Nat → Nat} (hI : C.Inv [] held) : Calls Try.prog 19 #[.pointer (some ⟨q, 0, none⟩)] w (DumpAt w C) := by
  refine (hdump _ _ _ _ _ _ h.ref hI.ok).mono ?_
  rintro e w1 ⟨a, c, b, d, rfl, hs, hf, hb⟩
  exact ⟨a, c, b, d, _, rfl, slots_at hI hs, hf, hb⟩
end
end Go.Proofs.Ytnmookemeibioaa
set_option linter.unusedVariables false
namespace Go.Proofs.Ytnmookemeibioaa
open Go.RowKit
structure QS (I : AImpl) (B : Nat) (w0 w : World) (p : Value) (q : Nat) (A : Ar) (rd rc : Int) (r : AL) (bx bY : Nat) (X : Nd) : Prop where
  ag : AG I B w0 w p q A rd A rc r (fun k => k = bx ∨ k = bY)
  hx : w.heap[bx]? = some (.cells (ndA X) 50 (0, 0))
  hy : w.heap[bY]? = some (.cells (ndA X) 50 (0, 0))
section
variable {I : AImpl} {B q bx bY : Nat} {w0 w w' : World} {p : Value} {A : Ar} {rd rd' rc rc' : Int} {r r' : AL} {X : Nd}
theorem QS.calm (h : QS I B w0 w p q A rd rc r bx bY X) (hb : Below w.heap.size w w') : QS I B w0 w' p q A rd rc r bx bY X :=
  ⟨h.ag.calm hb, (hb.block bx (h.ag.gl bx (.inl rfl)).1).trans h.hx, (hb.block bY (h.ag.gl bY (.inr rfl)).1).trans h.hy⟩
theorem QS.mk2 (h : QS I B w0 w p q A rd rc r bx bY X) (ha : AG I B w0 w' p q A rd' A rc' r' (fun k => k = bx ∨ k = bY)) (hG : ∀ k, (k = bx ∨ k = bY) → w'.heap[k]? = w.heap[k]?) : QS I B w0 w' p q A rd' rc' r' bx bY X :=
  ⟨ha, (hG bx (.inl rfl)).trans h.hx, (hG bY (.inr rfl)).trans h.hy⟩
theorem qs_size (h : QS I B w0 w p q A rd rc r bx bY X) (hoff : ∀ i, A.σ.on i = false → A.nd i = Nd.zero) {i : Nat} (hi : i < 4294967296) (h0 : 0 ≤ rd) (h1 : rd < 4611686018427387904) :
    Calls Try.prog 29 #[p, .int .u32 (i : Int)] w (fun e w' => e = .returned (.int .i64 (A.nd i).size) ∧ QS I B w0 w' p q A (A.up i rd) rc r bx bY X) := by
  obtain ⟨F, g1, g2⟩ := h.ag.prog
  refine (I.size p A rd F i w g1 h0 h1 hi).mono ?_
  rintro e w1 ⟨F', hal, h3, h4⟩
  cases hon : A.σ.on i with
  | false =>
    obtain ⟨rfl, h5⟩ := h3 hon
    unfold Ar.up
    rw [if_neg (by simp [hon]), hoff i hon]
    obtain ⟨k1, k2⟩ := h.ag.pstep g2 hal h5
    exact ⟨rfl, h.mk2 k1 k2⟩
  | true =>
    obtain ⟨rfl, h5⟩ := h4 hon
    unfold Ar.up
    rw [if_pos hon]
    obtain ⟨k1, k2⟩ := h.ag.pstep g2 hal h5
    exact ⟨rfl, h.mk2 k1 k2⟩
theorem qs_rsize (h : QS I B w0 w p q A rd rc r bx bY X) (hok : A.σ.Ok) (hoff : ∀ i, A.σ.on i = false → A.nd i = Nd.zero) {i : Nat} (hi : i < 4294967296) (h0 : 0 ≤ rc) (h1 : rc < 4611686018427387904) :
    Calls Try.prog 30 #[.pointer (some ⟨q, 0, none⟩), .int .u32 (i : Int)] w (fun e w' => e = .returned (.int .i64 (A.nd i).size) ∧ QS I B w0 w' p q A rd (A.up i rc) r bx bY X) := by
  refine (rar_size h.ag.ref hok hoff i hi h0 h1).mono ?_
  rintro e w1 ⟨rfl, h3, hal⟩
  obtain ⟨k1, k2⟩ := h.ag.rstep hal h3
  exact ⟨rfl, h.mk2 k1 k2⟩
theorem qs_cnt (h : QS I B w0 w p q A rd rc r bx bY X) {i : Nat} (hi : i < 4294967296) : Calls Try.prog 31 #[p, .int .u32 (i : Int)] w (fun e w' => e = .returned (.int .i64 (A.cnt i)) ∧ QS I B w0 w' p q A rd rc r bx bY X) := by
  obtain ⟨F, h1, h2⟩ := h.ag.prog
  refine (I.count p A rd F i w h1 hi).mono ?_
  rintro e w1 ⟨rfl, hb⟩
  exact ⟨rfl, h.calm hb⟩
theorem qs_rcnt (h : QS I B w0 w p q A rd rc r bx bY X) (hok : A.σ.Ok) (hoff : ∀ i, A.σ.on i = false → A.cnt i = 0) {i : Nat} (hi : i < 4294967296) : Calls Try.prog 23 #[.pointer (some ⟨q, 0, none⟩), .int .u32 (i : Int)] w (fun e w' => e = .returned (.int .i64 (A.cnt i)) ∧ QS I B w0 w' p q A rd rc r bx bY X) := by
  refine (ag_rcnt h.ag hok hoff hi).mono ?_
  rintro e w1 ⟨rfl, _, hb⟩
  exact ⟨rfl, h.calm hb⟩
theorem qs_gen (h : QS I B w0 w p q A rd rc r bx bY X) {i : Nat} (hi : i < 4294967296) : Calls Try.prog 32 #[p, .int .u32 (i : Int)] w (fun e w' => e = .returned (.int .u32 (A.σ.gen i : Int)) ∧ QS I B w0 w' p q A rd rc r bx bY X) := by
  refine (ag_gen h.ag hi).mono ?_
  rintro e w1 ⟨rfl, _, hb⟩
  exact ⟨rfl, h.calm hb⟩
theorem qs_rgen (h : QS I B w0 w p q A rd rc r bx bY X) (hok : A.σ.Ok) {i : Nat} (hi : i < 4294967296) : Calls Try.prog 33 #[.agg #[.int .i64 (A.σ.cap : Int), .slice r.sa r.st.length r.sc, .int .i64 (r.fr : Int), .slice r.ga A.σ.cap r.gc, .slice r.oa A.σ.cap r.oc], .int .u32 (i : Int)] w
    (fun e w' => e = .returned (.int .u32 (A.σ.gen i : Int)) ∧ QS I B w0 w' p q A rd rc r bx bY X) := by
  refine (ag_rgen h.ag hok hi).mono ?_
  rintro e w1 ⟨rfl, _, hb⟩
  exact ⟨rfl, h.calm hb⟩
end
end Go.Proofs.Ytnmookemeibioaa
set_option linter.unusedVariables false
namespace Go.Proofs.Ytnmookemeibioaa
open Go.RowKit

structure StepCells (w : World) (a : Option Addr) (k b off : Nat) (kd key val x y : Int) : Prop where
  addr : a = some ⟨b, off, none⟩
  lt : b < w.heap.size
  c0 : w.cell? ⟨b, off + k * 5, none⟩ = some (.int .i64 kd)
  c1 : w.cell? ⟨b, off + k * 5 + 1, none⟩ = some (.int .i64 key)
  c2 : w.cell? ⟨b, off + k * 5 + 2, none⟩ = some (.int .i64 val)
  c3 : w.cell? ⟨b, off + k * 5 + 3, none⟩ = some (.int .u32 x)
  c4 : w.cell? ⟨b, off + k * 5 + 4, none⟩ = some (.int .u32 y)
def StepsIn (w : World) (a : Option Addr) (n : Nat) : Prop :=
  ∀ r, r < n → ∃ b off kd key val x y, StepCells w a r b off kd key val x y ∧ (-9223372036854775808 ≤ kd ∧ kd ≤ 9223372036854775807) ∧ (-9223372036854775808 ≤ key ∧ key ≤ 9223372036854775807) ∧ (-9223372036854775808 ≤ val ∧ val ≤ 9223372036854775807) ∧ (0 ≤ x ∧ x < 4294967296) ∧ (0 ≤ y ∧ y < 4294967296)
theorem StepsIn.below {w w' : World} {a : Option Addr} {n : Nat} (h : StepsIn w a n) (hb : Below w.heap.size w w') : StepsIn w' a n := by
  intro r hr
  obtain ⟨b, off, kd, key, val, x, y, hc, h1⟩ := h r hr
  have hcell : ∀ o, w'.cell? ⟨b, o, none⟩ = w.cell? ⟨b, o, none⟩ := fun o => hb.cell (p := ⟨b, o, none⟩) hc.lt
  exact ⟨b, off, kd, key, val, x, y, ⟨hc.addr, Nat.lt_of_lt_of_le hc.lt hb.size, (hcell _).trans hc.c0, (hcell _).trans hc.c1, (hcell _).trans hc.c2, (hcell _).trans hc.c3, (hcell _).trans hc.c4⟩, h1⟩
theorem steps_in {H : Type} {enc : TypeId × Value → H} {W : World} {a : Option Addr} {n cap fuel : Nat} {z : DataW H × List MemPlace}
    (h : DataW.trod enc Try.prog W 0 (fun _ => true) true fuel 40 (Value.slice a n cap).cells.toList = some z) : n ≤ cap ∧ cap ≤ maxLen ∧ StepsIn W a n := by
  have hf := fields_in Try.underlying40 Try.underlying43 (by kernel_rfl) (by kernel_rfl) h
  refine ⟨hf.1, hf.2.1, fun r hr => ?_⟩
  obtain ⟨b, off, v, y, m, rfl, hlt, h1, h2⟩ := hf.2.2 r hr 0 _ rfl
  obtain ⟨b', off', v', y', m', he, _, h1', h2'⟩ := hf.2.2 r hr 1 _ rfl
  simp only [Option.some.injEq, Addr.mk.injEq, and_true] at he
  obtain ⟨rfl, rfl⟩ := he
  obtain ⟨b', off', v2, y2, m2, he, _, h12, h22⟩ := hf.2.2 r hr 2 _ rfl
  simp only [Option.some.injEq, Addr.mk.injEq, and_true] at he
  obtain ⟨rfl, rfl⟩ := he
  obtain ⟨b', off', v3, y3, m3, he, _, h13, h23⟩ := hf.2.2 r hr 3 _ rfl
  simp only [Option.some.injEq, Addr.mk.injEq, and_true] at he
  obtain ⟨rfl, rfl⟩ := he
  obtain ⟨b', off', v4, y4, m4, he, _, h14, h24⟩ := hf.2.2 r hr 4 _ rfl
  simp only [Option.some.injEq, Addr.mk.injEq, and_true] at he
  obtain ⟨rfl, rfl⟩ := he
  obtain ⟨kd, hv, _, hw⟩ := DataW.trod_int Try.underlying3 h2
  obtain ⟨key, hv', _, hw'⟩ := DataW.trod_int Try.underlying2 h2'
  obtain ⟨val, hv2, _, hw2⟩ := DataW.trod_int Try.underlying2 h22
  obtain ⟨p, hv3, _, hw3⟩ := DataW.trod_int Try.underlying41 h23
  obtain ⟨u, hv4, _, hw4⟩ := DataW.trod_int Try.underlying41 h24
  simp only [List.cons.injEq, and_true] at hv hv' hv2 hv3 hv4
  subst hv hv' hv2 hv3 hv4
  have hb := bounds_i64 hw
  have hb' := bounds_i64 hw'
  have hb2 := bounds_i64 hw2
  have hb3 := bounds_u32 hw3
  have hb4 := bounds_u32 hw4
  exact ⟨b, off, kd, key, val, p, u, ⟨rfl, hlt, h1, h1', h12, h13, h14⟩, hb, hb', hb2, ⟨by omega, by omega⟩, ⟨by omega, by omega⟩⟩
end Go.Proofs.Ytnmookemeibioaa
