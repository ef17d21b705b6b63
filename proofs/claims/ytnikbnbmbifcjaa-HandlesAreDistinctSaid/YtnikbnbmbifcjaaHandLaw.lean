/- A table of handles beside a row of numbers: what becomes of the two. The sanity check returns true. Condition: the program's functions keep their contracts. -/
import Derived.Test.YtnikbnbmbifcjaaHandCon
import Derived.Test.YtnikbnbmbifcjaaKitMod
import Derived.BigGuardPart
import Derived.Maps.AppendAt
set_option linter.unusedVariables false
namespace Go.Proofs.Ytnikbnbmbifcjaa
open Go.RowKit

theorem u64sInfo : (Try.prog.info? 29).map (fun i => (i.zero, i.size, i.bytes)) = some (some (.int .u64 0), 1, 8) := by kernel_rfl
theorem u64s_snoc (l : List Int) (i : Int) : u64s (l ++ [i]) = u64s l ++ [.int .u64 i] := by simp [u64s]
theorem u64s_get {l : List Int} {j : Nat} (h : j < l.length) : (u64s l)[j]? = some (.int .u64 (l.getD j 0)) := by simp [u64s, List.getD_eq_getElem?_getD, h]
theorem u64s_one (l : List Int) : ∀ u ∈ u64s l, u.oneCell' = true := by
  intro u hu
  unfold u64s at hu
  obtain ⟨i, _, rfl⟩ := List.mem_map.1 hu
  rfl
/-- the table p, and the row x that reads as l, in blocks from B on that are not the same -/
structure TI (I : HImpl) (B : Nat) (w0 w : World) (p : Value) (σ : St) (v : Nat → Int) (x : Value) (l : List Int) : Prop where
  has : ∃ F, I.Is w p σ v F ∧ ∀ k, F k → B ≤ k ∧ x.ownBlock ≠ some k
  row : w.ownsRow B 29 1 x l.length (u64s l)
  below : Below B w0 w
  hB : B ≤ w.heap.size
section
variable {I : HImpl} {B : Nat} {w w' w0 : World} {p x x' : Value} {σ σ' : St} {v v' : Nat → Int} {l l' : List Int}
theorem TI.ok (h : TI I B w0 w p σ v x l) : σ.Ok := by obtain ⟨F, h, _⟩ := h.has; exact I.ok h
theorem TI.calm (h : TI I B w0 w p σ v x l) (hb : Below w.heap.size w w') : TI I B w0 w' p σ v x l := by
  obtain ⟨F, h1, hF⟩ := h.has
  exact ⟨⟨F, I.below h1 hb, hF⟩, row_below h.row hb, h.below.trans (hb.mono h.hB), Nat.le_trans h.hB hb.size⟩
theorem TI.step {F F' : Nat → Prop} (h : TI I B w0 w p σ v x l) (hF : ∀ k, F k → B ≤ k ∧ x.ownBlock ≠ some k) (ha : Alters F F' w w') (hs : I.Is w' p σ' v' F') : TI I B w0 w' p σ' v' x l := by
  refine ⟨⟨F', hs, fun k hk => ?_⟩, ha.row h.row fun k hk hf => (hF k hf).2 hk, ha.below h.below h.hB fun k hk => (hF k hk).1, Nat.le_trans h.hB ha.size⟩
  rcases ha.foot k hk with h4 | h4
  · exact hF k h4
  · exact ⟨Nat.le_trans h.hB h4, fun e => by have := (row_lt h.row k e).2; omega⟩
/-- the row was appended to -/
theorem TI.push {a : Option Addr} {n c : Nat} (h : TI I B w0 w p σ v x l) (hg : w.grownBy w' x.ownBlock) (hr : w'.ownsRow B 29 1 x' l'.length (u64s l')) (hb : x'.ownBlock = x.ownBlock ∨ x'.ownBlock = some w.heap.size) : TI I B w0 w' p σ v x' l' := by
  obtain ⟨F, h1, hF⟩ := h.has
  refine ⟨⟨F, I.keep h1 fun k hk => hg.block k (I.dom h1 k hk) fun e => (hF k hk).2 e.symm, fun k hk => ⟨(hF k hk).1, fun e => ?_⟩⟩, hr, h.below.grown hg h.hB (row_from h.row), Nat.le_trans h.hB hg.size⟩
  rcases hb with e2 | e2
  · exact (hF k hk).2 (e2.symm.trans e)
  · rw [e2] at e
    have := I.dom h1 k hk
    simp at e
    omega
/-- another row in its place -/
theorem TI.other (h : TI I B w0 w p σ v x l) (hr : w.ownsRow B 29 1 x' l'.length (u64s l')) (hb : ∀ k, x'.ownBlock = some k → x.ownBlock = some k) : TI I B w0 w p σ v x' l' := by
  obtain ⟨F, h1, hF⟩ := h.has
  exact ⟨⟨F, h1, fun k hk => ⟨(hF k hk).1, fun e => (hF k hk).2 (hb k e)⟩⟩, hr, h.below, h.hB⟩
def TNew (I : HImpl) (w : World) (n : Nat) (e : Ending) (w' : World) : Prop :=
  ∃ a, e = .returned (.tuple #[.pointer (some a), .int .i64 0]) ∧ TI I w.heap.size w w' (.pointer (some a)) (St.init n) (fun _ => 0) (.slice none 0 0) []
theorem ti_new (I : HImpl) (n : Nat) (N : Int) (w : World) (h1 : 1 ≤ n) (h2 : n ≤ 4096) (hN : N = (n : Int)) : Calls Try.prog 8 #[.int .i64 N] w (TNew I w n) := by
  subst hN
  refine (I.new_ok n w h1 h2).mono ?_
  rintro e w1 ⟨p, F, rfl, h, hF, hb⟩
  obtain ⟨a, rfl⟩ := I.ptr h
  exact ⟨a, rfl, ⟨F, h, fun k hk => ⟨hF k hk, by simp [Value.ownBlock]⟩⟩, World.ownsRow_nil _ _ _ _, hb, hb.size⟩
def TOpen (I : HImpl) (B : Nat) (w0 : World) (p : Value) (σ : St) (v : Nat → Int) (x : Value) (l : List Int) (i : Nat) (t : List Nat) (y : Int) (e : Ending) (w' : World) : Prop :=
  e = .returned (.tuple #[.int .u64 ((σ.take i t).hd i), .int .i64 0]) ∧ TI I B w0 w' p (σ.take i t) (upd v i y) x l
theorem ti_open (h : TI I B w0 w p σ v x l) {i : Nat} {t : List Nat} {y : Int} (hf : σ.free = i :: t) (h0 : 0 ≤ y) (h1 : y < 4294967296) :
    Calls Try.prog 12 #[p, .int .u32 y] w (TOpen I B w0 p σ v x l i t y) := by
  obtain ⟨F, h2, hF⟩ := h.has
  refine (I.opens p σ v F y w h2 h0 h1).mono ?_
  rintro e w1 ⟨F', ha, _, h3⟩
  obtain ⟨rfl, h4⟩ := h3 i t hf
  exact ⟨rfl, h.step hF ha h4⟩
def TFull (I : HImpl) (B : Nat) (w0 : World) (p : Value) (σ : St) (v : Nat → Int) (x : Value) (l : List Int) (e : Ending) (w' : World) : Prop :=
  e = .returned (.tuple #[.int .u64 0, .int .i64 2]) ∧ TI I B w0 w' p σ v x l
theorem ti_full (h : TI I B w0 w p σ v x l) {y : Int} (hf : σ.free = []) (h0 : 0 ≤ y) (h1 : y < 4294967296) :
    Calls Try.prog 12 #[p, .int .u32 y] w (TFull I B w0 p σ v x l) := by
  obtain ⟨F, h2, hF⟩ := h.has
  refine (I.opens p σ v F y w h2 h0 h1).mono ?_
  rintro e w1 ⟨F', ha, h3, _⟩
  obtain ⟨rfl, h4⟩ := h3 hf
  exact ⟨rfl, h.step hF ha h4⟩
def TRet (I : HImpl) (B : Nat) (w0 : World) (p : Value) (σ : St) (v : Nat → Int) (x : Value) (l : List Int) (r : Value) (e : Ending) (w' : World) : Prop :=
  e = .returned r ∧ TI I B w0 w' p σ v x l
theorem ti_lookup (h : TI I B w0 w p σ v x l) {n : Int} (h0 : 0 ≤ n) (h1 : n < 18446744073709551616) :
    Calls Try.prog 15 #[p, .int .u64 n] w (Calm w (if σ.ent n = 0 then .tuple #[.int .u32 0, .int .i64 5] else .tuple #[.int .u32 (v (σ.ent n)), .int .i64 0])) := by
  obtain ⟨F, h2, hF⟩ := h.has
  exact I.lookup p σ v F n w h2 h0 h1
theorem ti_replace (h : TI I B w0 w p σ v x l) {n y : Int} (h0 : 0 ≤ n) (h1 : n < 18446744073709551616) (h3 : 0 ≤ y) (h4 : y < 4294967296) (he : σ.ent n ≠ 0) :
    Calls Try.prog 17 #[p, .int .u64 n, .int .u32 y] w (TRet I B w0 p σ (upd v (σ.ent n) y) x l (.int .i64 0)) := by
  obtain ⟨F, h2, hF⟩ := h.has
  refine (I.replace p σ v F n y w h2 h0 h1 h3 h4).mono ?_
  rintro e w1 ⟨F', ha, _, h5⟩
  obtain ⟨rfl, h6⟩ := h5 he
  exact ⟨rfl, h.step hF ha h6⟩
theorem ti_replace_bad (h : TI I B w0 w p σ v x l) {n y : Int} (h0 : 0 ≤ n) (h1 : n < 18446744073709551616) (h3 : 0 ≤ y) (h4 : y < 4294967296) (he : σ.ent n = 0) :
    Calls Try.prog 17 #[p, .int .u64 n, .int .u32 y] w (TRet I B w0 p σ v x l (.int .i64 5)) := by
  obtain ⟨F, h2, hF⟩ := h.has
  refine (I.replace p σ v F n y w h2 h0 h1 h3 h4).mono ?_
  rintro e w1 ⟨F', ha, h5, _⟩
  obtain ⟨rfl, h6⟩ := h5 he
  exact ⟨rfl, h.step hF ha h6⟩
theorem ti_close (h : TI I B w0 w p σ v x l) {n : Int} (h0 : 0 ≤ n) (h1 : n < 18446744073709551616) (he : σ.ent n ≠ 0) :
    Calls Try.prog 19 #[p, .int .u64 n] w (TRet I B w0 p (σ.put (σ.ent n)) v x l (.tuple #[.int .u32 (v (σ.ent n)), .int .i64 0])) := by
  obtain ⟨F, h2, hF⟩ := h.has
  refine (I.close p σ v F n w h2 h0 h1).mono ?_
  rintro e w1 ⟨F', ha, _, h5⟩
  obtain ⟨rfl, h6⟩ := h5 he
  exact ⟨rfl, h.step hF ha h6⟩
theorem ti_close_bad (h : TI I B w0 w p σ v x l) {n : Int} (h0 : 0 ≤ n) (h1 : n < 18446744073709551616) (he : σ.ent n = 0) :
    Calls Try.prog 19 #[p, .int .u64 n] w (TRet I B w0 p σ v x l (.tuple #[.int .u32 0, .int .i64 5])) := by
  obtain ⟨F, h2, hF⟩ := h.has
  refine (I.close p σ v F n w h2 h0 h1).mono ?_
  rintro e w1 ⟨F', ha, h5, _⟩
  obtain ⟨rfl, h6⟩ := h5 he
  exact ⟨rfl, h.step hF ha h6⟩
theorem ti_len (h : TI I B w0 w p σ v x l) : Calls Try.prog 11 #[p] w (Calm w (.int .i64 (σ.opened.length : Int))) := by
  obtain ⟨F, h2, hF⟩ := h.has
  exact I.len p σ v F w h2
def THandles (w : World) (σ : St) (e : Ending) (w' : World) : Prop :=
  ∃ a c, e = .returned (.slice a σ.hds.length c) ∧ w'.ownsRow w.heap.size 29 1 (.slice a σ.hds.length c) σ.hds.length (u64s σ.hds) ∧ Below w.heap.size w w'
theorem ti_handles (h : TI I B w0 w p σ v x l) : Calls Try.prog 24 #[p] w (THandles w σ) := by
  obtain ⟨F, h2, hF⟩ := h.has
  exact I.handles p σ v F w h2
end
theorem ent_none {σ : St} {h : Int} (he : σ.on (h % 4294967296).toNat = false ∨ σ.gen (h % 4294967296).toNat ≠ h / 4294967296) : σ.ent h = 0 := by
  unfold St.ent
  rw [if_neg]
  rintro ⟨h1, h2⟩
  rcases he with h3 | h3
  · rw [h1] at h3; cases h3
  · exact h3 h2
set_option maxHeartbeats 1000000 in
set_option maxRecDepth 100000 in
theorem awake_any (I : HImpl) (w : World) : Calls Try.prog 10 #[] w fun e w' => e = .returned (.bool true) ∧ Below w.heap.size w w' := by
  go_enter Try.func10, Try.ntmps10
  go_wp2_with fail
  refine (ti_new I 2 2 _ (by decide) (by decide) rfl).mono ?_
  rintro e w1 ⟨a, rfl, h⟩
  go_wp2_with fail
  refine (ti_open h (i := 1) (t := [2]) rfl (by decide) (by decide)).mono ?_
  rintro e w2 ⟨rfl, h2⟩
  rw [show ((St.init 2).take 1 [2]).hd 1 = 4294967297 from rfl]
  clear h
  go_wp2_with fail
  refine (ti_close h2 (n := 4294967297) (by decide) (by decide) (by decide)).mono ?_
  rintro e w3 ⟨rfl, h3⟩
  rw [show ((St.init 2).take 1 [2]).ent 4294967297 = 1 from rfl] at h3 ⊢
  rw [show upd (fun _ => 0) 1 7 1 = 7 from rfl]
  clear h2
  go_wp2_with fail
  refine (ti_open h3 (i := 1) (t := [2]) rfl (by decide) (by decide)).mono ?_
  rintro e w4 ⟨rfl, h4⟩
  rw [show ((((St.init 2).take 1 [2]).put 1).take 1 [2]).hd 1 = 8589934593 from rfl]
  clear h3
  go_wp2_with fail
  refine (ti_lookup h4 (n := 4294967297) (by decide) (by decide)).mono ?_
  rintro e w5 ⟨rfl, hb⟩
  rw [if_pos (show ((((St.init 2).take 1 [2]).put 1).take 1 [2]).ent 4294967297 = 0 from rfl)]
  have hbl := h4.below.trans (hb.mono h4.hB)
  clear h4 hb
  go_wp2
  go_ret
  exact ⟨rfl, hbl⟩
end Go.Proofs.Ytnikbnbmbifcjaa
