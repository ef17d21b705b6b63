/- Of the proof of SJoinUndoesSplitP: ArOkA, KitMod, ArenaLaw, Ens, ArenaChain, Wf, RotCon, Makes, RefNum, KitTree, SoundP. -/
import Derived.Test.YtehaffcjoafkcaaSJoinUndoesSplitP1
import Derived.Test.YtehaffcjoafkcaaSJoinUndoesSplitP2
import Derived.Maps.AppendAt
import Derived.BigGuardPart
import Derived.Deep.DeepCutAuto
import Derived.Deep.QuietTactic
import Derived.Laws.Rows
import Derived.Laws.CopyOwn
import Derived.RegionTactic
import Derived.Deep.RegionHeld3
import Derived.OwnWalk
set_option linter.unusedVariables false
namespace Go.Proofs.Ytehaffcjoafkcaa
open Go.RowKit
theorem run_pop0 (f : Nat) (A : Ar) (t : List Nat) : Ar.run (f + 1) A (0 :: t) = Ar.run f A t := by
  conv => lhs; unfold Ar.run
  rw [if_pos rfl]
theorem run_popDec (f : Nat) (A : Ar) {i : Nat} (t : List Nat) (h0 : i ≠ 0) (hc : A.cnt i ≠ 1) : Ar.run (f + 1) A (i :: t) = Ar.run f (A.dec i) t := by
  conv => lhs; unfold Ar.run
  rw [if_neg h0, if_neg hc]
theorem run_popDrop (f : Nat) (A : Ar) {i : Nat} (t : List Nat) (h0 : i ≠ 0) (hc : A.cnt i = 1) : Ar.run (f + 1) A (i :: t) = ((Ar.run f (A.drop i) ((A.nd i).left :: (A.nd i).right :: t)).1, (Ar.run f (A.drop i) ((A.nd i).left :: (A.nd i).right :: t)).2 + 1) := by
  conv => lhs; unfold Ar.run
  rw [if_neg h0, if_pos hc]
theorem run_nil (f : Nat) (A : Ar) : Ar.run f A [] = (A, 0) := by cases f <;> rfl
/-- the cascade at hand in memory: A' is the arena, s the stack, n slots have become free -/
structure RelR (I : Impl) (w : World) (ab : Nat) (sp : Addr) (A : Ar) (rd : Int) (g cc : Nat) (Fs : Nat → Prop) (held : Nat → Nat) (i k : Nat) (n : Nat) (x : Value) (A' : Ar) (s : List Nat) (Fs' : Nat → Prop) (wr : World) : Prop where
  val : ∃ a c, x = .slice a s.length c
  work : wr.ownsRow w.heap.size 26 1 x s.length (u32s s.reverse)
  lie : LieA I wr ab sp A' rd (some ⟨g, 0, none⟩) cc Fs'
  alt : Alters (FootA ab (some ⟨g, 0, none⟩) Fs) (FootA ab (some ⟨g, 0, none⟩) Fs') w wr
  sep : ∀ b, x.ownBlock = some b → ¬ FootA ab (some ⟨g, 0, none⟩) Fs' b
  inv : A'.Inv s held
  run : (Ar.run k A' s).1 = A.gone i ∧ (Ar.run k A' s).2 + n = A.freed i
  fuel : 3 * (A'.σ.cap - A'.σ.free.length) + s.length ≤ k
  big : k ≤ 200000
  few : n + (A'.σ.cap - A'.σ.free.length) ≤ 65536
section
variable {I : Impl} {w w' wr : World} {ab : Nat} {sp : Addr} {A A' : Ar} {rd : Int} {cc g : Nat} {Fs Fs' Fs2 : Nat → Prop} {held : Nat → Nat} {i k n : Nat} {x v : Value} {s t : List Nat}
/-- what lies in memory behind the pop and the removal -/
structure MidR (I : Impl) (w : World) (ab : Nat) (sp : Addr) (rd : Int) (g cc : Nat) (Fs : Nat → Prop) (x : Value) (A' : Ar) (t : List Nat) (Fs' : Nat → Prop) (wr : World) : Prop where
  work : wr.ownsRow w.heap.size 26 1 x t.length (u32s t.reverse)
  lie : LieA I wr ab sp A' rd (some ⟨g, 0, none⟩) cc Fs'
  alt : Alters (FootA ab (some ⟨g, 0, none⟩) Fs) (FootA ab (some ⟨g, 0, none⟩) Fs') w wr
  sep : ∀ b, x.ownBlock = some b → ¬ FootA ab (some ⟨g, 0, none⟩) Fs' b
theorem MidR.below (h : MidR I w ab sp rd g cc Fs x A' t Fs' wr) (hb : Below wr.heap.size wr w') : MidR I w ab sp rd g cc Fs x A' t Fs' w' :=
  ⟨row_below h.work hb, h.lie.below hb, h.alt.trans (.of_below hb), h.sep⟩
theorem RelR.mid {y : Nat} {a : Addr} {c : Nat} {B : Ar} (h : RelR I w ab sp A rd g cc Fs held i k n (.slice (some a) (t.length + 1) c) A' (y :: t) Fs' wr) (ha : Alters (FootA ab (some ⟨g, 0, none⟩) Fs') (FootA ab (some ⟨g, 0, none⟩) Fs2) wr w') (hl : LieA I w' ab sp B rd (some ⟨g, 0, none⟩) cc Fs2) :
    MidR I w ab sp rd g cc Fs (.slice (some a) t.length c) B t Fs2 w' := by
  have hw := h.work
  rw [List.length_cons] at hw
  obtain ⟨g2, hg2⟩ := row_head hw (by omega)
  rw [hg2] at hw ⊢
  have h1 := row_cut hw (m := t.length) (by omega)
  have e : (u32s (y :: t).reverse).take t.length = u32s t.reverse := by
    rw [List.reverse_cons, u32s_app]
    exact List.take_left' (by simp [u32s])
  rw [e] at h1
  have hs : ∀ b, (Value.slice (some (⟨g2, 0, none⟩ : Addr)) t.length c).ownBlock = some b → ¬ FootA ab (some ⟨g, 0, none⟩) Fs' b := fun b hb => h.sep b (by rw [hg2]; exact hb)
  have h2 := ha.apart (G := fun b => (Value.slice (some (⟨g2, 0, none⟩ : Addr)) t.length c).ownBlock = some b) fun b hb => ⟨(row_lt h1 b hb).2, hs b hb⟩
  exact ⟨ha.row h1 hs, hl, h.alt.trans ha, fun b hb => (h2 b hb).2⟩
/-- the children are pushed -/
theorem MidR.push {l r : Nat} (h : MidR I w ab sp rd g cc Fs x A' t Fs' wr) (hg : wr.grownBy w' x.ownBlock) (hr : w'.ownsRow w.heap.size 26 1 v (t.length + 2) (u32s t.reverse ++ [.int .u32 (r : Int), .int .u32 (l : Int)]))
    (hv : v.ownBlock = x.ownBlock ∨ v.ownBlock = some wr.heap.size) : MidR I w ab sp rd g cc Fs v A' (l :: r :: t) Fs' w' := by
  refine ⟨?_, h.lie.keep fun b hb => hg.block b (h.lie.dom b hb) fun e => h.sep b e.symm hb, ⟨hg.os.trans h.alt.os, hg.tape.trans h.alt.tape, hg.output.trans h.alt.output, Nat.le_trans h.alt.size hg.size, fun b hb hF => (hg.block b (Nat.lt_of_lt_of_le hb h.alt.size) fun e => ?_).trans (h.alt.block b hb hF), h.alt.foot⟩, fun b hb hF => ?_⟩
  · rw [show (l :: r :: t).reverse = t.reverse ++ [r, l] by simp, u32s_app]
    exact hr
  · have := row_from h.work b e.symm; omega
  · rcases hv with e | e
    · exact h.sep b (e ▸ hb) hF
    · rw [e] at hb; simp at hb; have := h.lie.dom b hF; omega
set_option maxHeartbeats 1000000 in
set_option maxRecDepth 100000 in
theorem a_release_bad (h : LieA I w ab sp A rd (some ⟨g, 0, none⟩) cc Fs) (i : Nat) (hi : i < 4294967296) (hb : ¬ A.Idx i) :
    Calls Try.prog 11 #[.pointer (some ⟨ab, 0, none⟩), .int .u32 (i : Int)] w (Calm w (.tuple #[.int .i64 0, .int .i64 3])) := by
  have hx : (decide (i = 0) || A.σ.on i) = false := by
    unfold Ar.Idx at hb
    have h1 : ¬ i = 0 := fun e => hb (.inl e)
    have h2 : ¬ A.σ.on i = true := fun e => hb (.inr e)
    simp [h1, h2]
  have HI := Lib.hid (a_isIndex h i hi)
  have HX := Lib.hid hx
  clear h hb hx
  go_enter Try.func11, Try.ntmps11
  go_wp2_with fail
  refine HI.out.mono ?_
  rintro e w2 ⟨rfl, q, rfl⟩
  rw [HX.out]
  clear HI HX
  go_wp2_with fail
  go_ret2
  exact ⟨rfl, below_drewN (Below.refl _ _) _⟩
def ARel (I : Impl) (w : World) (ab : Nat) (sp : Addr) (A : Ar) (rd : Int) (g cc : Nat) (Fs : Nat → Prop) (i : Nat) (e : Ending) (w' : World) : Prop :=
  ∃ Fs', Alters (FootA ab (some ⟨g, 0, none⟩) Fs) (FootA ab (some ⟨g, 0, none⟩) Fs') w w' ∧ e = .returned (.tuple #[.int .i64 (A.freed i : Int), .int .i64 0]) ∧ LieA I w' ab sp (A.gone i) rd (some ⟨g, 0, none⟩) cc Fs'
theorem u32InfoA : (Try.prog.info? 26).map (fun i => (i.zero, i.size, i.bytes)) = some (some (.int .u32 0), 1, 4) := by kernel_rfl
set_option maxHeartbeats 4000000 in
set_option maxRecDepth 100000 in
theorem a_release (h : LieA I w ab sp A rd (some ⟨g, 0, none⟩) cc Fs) (i : Nat) (hi : i < 4294967296) (hb : A.Idx i) (hinv : A.Inv [i] held) :
    Calls Try.prog 11 #[.pointer (some ⟨ab, 0, none⟩), .int .u32 (i : Int)] w (ARel I w ab sp A rd g cc Fs i) := by
  obtain ⟨i1, ji, jz0, jz1, jz2⟩ := info_parts u32InfoA
  have hx : (decide (i = 0) || A.σ.on i) = true := by
    rcases hb with e | e
    · simp [e]
    · simp [e]
  have HI := Lib.hid (a_isIndex h i hi)
  have HX := Lib.hid hx
  have HH := Lib.hid h
  have HINV := Lib.hid hinv
  clear h hx hb hinv
  go_enter Try.func11, Try.ntmps11
  go_wp2_with fail
  refine HI.out.mono ?_
  rintro e w1 ⟨rfl, q, rfl⟩
  rw [HX.out]
  have hb1 : Below w.heap.size w (w.drewN q) := below_drewN (Below.refl _ _) q
  generalize w.drewN q = w1 at hb1 ⊢
  have h1 := HH.out.below hb1
  have hal := below_al w1 (Obj.cells #[Value.int .u32 (i : Int)] 26)
  have hrow := World.ownsRow_lit (base := w.heap.size) (e := 26) (size := 1) w1 #[Value.int .u32 (i : Int)] 1 hb1.size (by decide) rfl
  have hlen := HINV.out.ok.len
  have hcap := HINV.out.ok.cap2
  have HM : Hid (RelR I w ab sp A rd g cc Fs held i A.fuel 0 (.slice (some ⟨w1.heap.size, 0, none⟩) 1 1) A [i] Fs (w1.alloc (Obj.cells #[Value.int .u32 (i : Int)] 26))) := by
    refine ⟨⟨_, _, rfl⟩, hrow, h1.below hal, .of_below (trans_of' hb1 hal), fun b hb hF => ?_, HINV.out, ⟨rfl, rfl⟩, ?_, ?_, by omega⟩
    · simp [Value.ownBlock] at hb
      have := h1.dom b hF
      omega
    · unfold Ar.fuel; simp; omega
    · unfold Ar.fuel; omega
  clear h1 hal hrow hlen hcap hb1 HI HX
  go_wp2_with fail
  go_loopg [6, 7] A.fuel (fun gk fr x wr => ∃ n A' s Fs', fr = .int .i64 ((n : Nat) : Int) ∧ RelR I w ab sp A rd g cc Fs held i gk n x A' s Fs' wr)
  case atStart => exact ⟨0, _, _, _, rfl, HM.out⟩
  case round =>
    clear HM
    obtain ⟨n, A', s, Fs', rfl, hM⟩ := hrel
    obtain ⟨xa, xc, rfl⟩ := hM.val
    have hnb := hM.few
    rcases (show s = [] ∨ ∃ y t, s = y :: t by cases s with | nil => exact .inl rfl | cons y t => exact .inr ⟨y, t, rfl⟩) with rfl | ⟨y, t, rfl⟩
    · have HMM := Lib.hid hM
      clear hM hnb
      rw [show ([] : List Nat).length = 0 from rfl]
      go_wp2_with fail
      go_ret2
      have hr := HMM.out.run
      rw [run_nil] at hr
      refine ⟨Fs', HMM.out.alt, by rw [← hr.2]; simp, ?_⟩
      rw [← hr.1]
      exact HMM.out.lie
    · obtain ⟨T, hT⟩ : ∃ T, t.length = T := ⟨_, rfl⟩
      have hw := hM.work
      rw [List.length_cons, hT] at hw hM
      obtain ⟨g2, rfl⟩ := row_head hw (by omega)
      have hcap2 := row_caps hw
      have hcy := hw.cellAt T (by omega)
      have hey : (u32s (y :: t).reverse)[T]? = some (.int .u32 (y : Int)) := by rw [List.reverse_cons, ← hT, ← List.length_reverse]; exact u32s_last _ _
      rw [hey] at hcy
      have hfu := hM.fuel
      have hbig := hM.big
      rw [List.length_cons, hT] at hfu
      obtain ⟨gk, rfl⟩ : ∃ k, gk = k + 1 := ⟨gk - 1, by omega⟩
      have hTi : (T : Int) + 1 ≤ 200000 := by omega
      have hTi0 : (0 : Int) ≤ (T : Int) := by omega
      have hxc : (T : Int) + 1 ≤ (xc : Int) := by omega
      have hxc2 : (xc : Int) ≤ 9223372036854775807 := by have := hcap2.2; unfold maxLen at this; omega
      have hni : (n : Int) ≤ 65536 := by omega
      have hni0 : (0 : Int) ≤ (n : Int) := by omega
      have hyi : y = 0 ∨ A'.σ.on y = true := hM.inv.stack y (by simp)
      have hy4 : y < 4294967296 := by
        rcases hyi with h | h
        · omega
        · have := hM.lie.ok.on y h; have := hM.lie.ok.cap2; omega
      have HREM := Lib.hid (a_remove hM.lie y hy4 (fun h => hM.inv.pos y h))
      have HMM := Lib.hid hM
      have HT := Lib.hid hT
      have HYI := Lib.hid hyi
      have HFU := Lib.hid hfu
      have HNB := Lib.hid hnb
      rw [List.length_cons, hT]
      clear hM hw hcap2 hey hfu hbig hT hyi hnb hy4
      go_wp2_with fail
      refine HREM.out.mono ?_
      rintro e w4 ⟨Fs2, ha4, hoff, hdec, hdrop⟩
      clear hcy HREM
      have hrl := HMM.out
      rw [← HT.out] at hrl
      by_cases h0 : y = 0
      · subst h0
        have ho0 : A'.σ.on 0 = false := by
          cases hq : A'.σ.on 0 with
          | false => rfl
          | true => have := HMM.out.lie.ok.on 0 hq; omega
        obtain ⟨rfl, hl4⟩ := hoff ho0
        have hmid := hrl.mid ha4 hl4
        rw [HT.out] at hmid
        have HMID := Lib.hid (hmid.below (below_al w4 (Obj.cells (nodA Nd.zero) 65)))
        clear hoff hdec hdrop hrl ha4 hl4 hmid ho0
        unfold nodA
        go_wp2_with fail
        unfold nodA at HMID
        go_roundg gk
        case measure => omega
        case rel =>
          have hr := HMM.out.run
          rw [run_pop0] at hr
          have hm := HMID.out
          rw [← HT.out] at hm ⊢
          exact ⟨n, A', t, Fs2, rfl, ⟨_, _, rfl⟩, hm.work, hm.lie, hm.alt, hm.sep, HMM.out.inv.pop0, hr, by have := HFU.out; have := HT.out; omega, by have := HMM.out.big; omega, HMM.out.few⟩
      · have hon : A'.σ.on y = true := by
          rcases HYI.out with h | h
          · exact absurd h h0
          · exact h
        by_cases hc1 : A'.cnt y = 1
        · obtain ⟨rfl, hl4⟩ := hdrop hon hc1
          have hmid := hrl.mid ha4 hl4
          rw [HT.out] at hmid
          have hal5 := below_al w4 (Obj.cells (nodA (A'.nd y)) 65)
          have HMID := Lib.hid (hmid.below hal5)
          have HX5 := Lib.hid (heap_alloc_new w4 (Obj.cells (nodA (A'.nd y)) 65))
          have HON := Lib.hid hon
          have HC1 := Lib.hid hc1
          have HY0 := Lib.hid h0
          clear hoff hdec hdrop hrl ha4 hl4 hmid hal5 hon hc1 h0
          unfold nodA
          go_upto_region 10 with fail
          rw [show #[Value.int .i64 (A'.nd y).key, .int .i64 (A'.nd y).val, .int .u32 ((A'.nd y).left : Int), .int .u32 ((A'.nd y).right : Int), .int .i64 (A'.nd y).size, .int .i64 (A'.nd y).sum, .int .i64 (A'.nd y).mn, .int .i64 (A'.nd y).mx] = nodA (A'.nd y) from rfl]
          generalize w4.alloc (Obj.cells (nodA (A'.nd y)) 65) = w5 at HMID HX5 ⊢
          generalize w4.heap.size = p5 at HX5 ⊢
          obtain ⟨_, _, z2, z3, _⟩ := row8v HX5.out
          have hal6 := below_al w5 (Obj.cells #[Value.int .u32 ((A'.nd y).right : Int), .int .u32 ((A'.nd y).left : Int)] 26)
          have hm6 := HMID.out.below hal6
          have hwk := hm6.work
          rw [HT.out] at hwk
          have hsz6 := hm6.alt.size
          have HM6 := Lib.hid hm6
          clear hal6 hm6
          go_wp2_with (at_builtin; refine wpList_append_own_at _ rfl (.tmp 40) (.tmp 45) 39 rfl w.heap.size 26 i1 (.int .u32 0) 1 4 Try.underlying39 ji jz0 jz1 jz2 rfl (by decide) _ T (u32s t.reverse) rfl hwk ⟨w5.heap.size, 0, none⟩ 2 2 [.int .u32 ((A'.nd y).right : Int), .int .u32 ((A'.nd y).left : Int)] rfl rfl (cell_new2 _ _ _ _) (one_cell2 _ _ _) (by unfold maxLen; omega) (by omega) hsz6 ?_; intro v9 w9 ho9 hg9 _ hv9)
          rw [← HT.out] at ho9
          go_roundg gk
          case measure => omega
          case rel =>
            have hm := HM6.out.push hg9 ho9 hv9
            have hr := HMM.out.run
            rw [run_popDrop gk A' t HY0.out HC1.out] at hr
            obtain ⟨va, vc, hvv⟩ := row_val ho9
            have hlt : A'.σ.free.length + 1 ≤ A'.σ.cap := by
              have h2 := (St.put_ok HMM.out.lie.ok HON.out).len
              simp [St.put] at h2
              exact h2
            have hfl : (A'.drop y).σ.free.length = A'.σ.free.length + 1 := by simp [Ar.drop, St.put]
            have hcp : (A'.drop y).σ.cap = A'.σ.cap := rfl
            refine ⟨n + 1, A'.drop y, (A'.nd y).left :: (A'.nd y).right :: t, Fs2, by go_num, ⟨va, vc, hvv⟩, hm.work, hm.lie, hm.alt, hm.sep, HMM.out.inv.popDrop HON.out HC1.out, ⟨hr.1, by have := hr.2; simp only at this; omega⟩, ?_, by have := HMM.out.big; omega, ?_⟩
            · rw [hfl, hcp]
              have := HFU.out
              have := HT.out
              simp only [List.length_cons]
              omega
            · rw [hfl, hcp]
              have := HNB.out
              omega
        · obtain ⟨rfl, hl4⟩ := hdec hon hc1
          have hmid := hrl.mid ha4 hl4
          rw [HT.out] at hmid
          have HMID := Lib.hid (hmid.below (below_al w4 (Obj.cells (nodA Nd.zero) 65)))
          have HON := Lib.hid hon
          have HC1 := Lib.hid hc1
          have HY0 := Lib.hid h0
          clear hoff hdec hdrop hrl ha4 hl4 hmid hon hc1 h0
          unfold nodA
          go_wp2_with fail
          unfold nodA at HMID
          go_roundg gk
          case measure => omega
          case rel =>
            have hr := HMM.out.run
            rw [run_popDec gk A' t HY0.out HC1.out] at hr
            have hm := HMID.out
            rw [← HT.out] at hm ⊢
            have hpos := HMM.out.inv.pos y HON.out
            have h1 := HC1.out
            exact ⟨n, A'.dec y, t, Fs2, rfl, ⟨_, _, rfl⟩, hm.work, hm.lie, hm.alt, hm.sep, HMM.out.inv.popDec HON.out (by omega), hr, by have := HFU.out; have := HT.out; show 3 * (A'.σ.cap - A'.σ.free.length) + _ ≤ _; omega, by have := HMM.out.big; omega, HMM.out.few⟩
end
end Go.Proofs.Ytehaffcjoafkcaa
set_option linter.unusedVariables false
namespace Go.Proofs.Ytehaffcjoafkcaa
open Go.RowKit
def celZ : Value := .agg #[.int .i64 0, .int .i64 0, .int .u32 0, .int .u32 0, .int .i64 0, .int .i64 0, .int .i64 0, .int .i64 0, .int .i64 0]
theorem celInfo : (Try.prog.info? 79).map (fun i => (i.zero, i.size, i.bytes)) = some (some celZ, 9, 64) := by kernel_rfl
theorem cels_zero (n : Nat) : (madeCells celZ.cells (n * 9)).toList = celsV (Ar.init n) := by
  refine cels_ext (by rw [Array.length_toList, size_madeCells]; rfl) fun i j hi hj => ?_
  have hi' : i < n := hi
  unfold madeCells
  simp only [Array.toList_map, Array.toList_range, List.getElem?_map, List.getElem?_range (show i * 9 + j < n * 9 by omega), Option.map_some]
  have e : (i * 9 + j) % celZ.cells.size = j := by
    show (i * 9 + j) % 9 = j
    omega
  rcases (show j = 0 ∨ j = 1 ∨ j = 2 ∨ j = 3 ∨ j = 4 ∨ j = 5 ∨ j = 6 ∨ j = 7 ∨ j = 8 by omega) with h | h | h | h | h | h | h | h | h <;> (subst h; rw [e]; rfl)
section
variable {I : Impl} {w w' wr : World} {ab : Nat} {sp : Addr} {A A' : Ar} {rd : Int} {cc g : Nat} {Fs Fs' : Nat → Prop}
set_option maxHeartbeats 1000000 in
set_option maxRecDepth 100000 in
theorem a_new_bad (I : Impl) (n : Int) (w : World) (h1 : -9223372036854775808 ≤ n) (h2 : n ≤ 9223372036854775807) (h : n < 1 ∨ 65536 < n) :
    Calls Try.prog 15 #[.int .i64 n] w (Calm w (.tuple #[.pointer none, .int .i64 1])) := by
  have HN := Lib.hid (I.new_bad n w h1 h2 h)
  clear h
  go_enter Try.func15, Try.ntmps15
  go_wp2_with fail
  refine HN.out.mono ?_
  rintro e w1 ⟨rfl, hb⟩
  have HB := Lib.hid hb
  clear hb HN
  go_wp2_with fail
  go_ret2
  exact ⟨rfl, HB.out⟩
def ANewR (I : Impl) (w : World) (n : Nat) (e : Ending) (w' : World) : Prop :=
  ∃ (ab : Nat) (sp : Addr) (g : Nat) (Fs : Nat → Prop), e = .returned (.tuple #[.pointer (some ⟨ab, 0, none⟩), .int .i64 0]) ∧ LieA I w' ab sp (Ar.init n) 0 (some ⟨g, 0, none⟩) n Fs ∧ (∀ k, FootA ab (some ⟨g, 0, none⟩) Fs k → w.heap.size ≤ k) ∧ Below w.heap.size w w'
set_option maxHeartbeats 2000000 in
set_option maxRecDepth 100000 in
theorem a_new (I : Impl) (n : Nat) (w : World) (h1 : 1 ≤ n) (h2 : n ≤ 65536) : Calls Try.prog 15 #[.int .i64 (n : Int)] w (ANewR I w n) := by
  obtain ⟨i0, hi, hz0, hz1, hz2⟩ := info_parts celInfo
  have hni : (n : Int) ≤ 65536 := by omega
  have hni1 : (1 : Int) ≤ (n : Int) := by omega
  go_enter Try.func15, Try.ntmps15
  go_wp2_with fail
  refine (I.new_ok n _ h1 h2).mono ?_
  rintro e w1 ⟨p, Fs, rfl, hs, hF, hb⟩
  obtain ⟨sp, rfl⟩ := I.ptr hs
  go_wp2_with (refine wpList_make_full _ rfl (.tmp 15) (.tmp 15) 69 rfl 0 79 i0 celZ 9 Try.underlying69 hi hz0 hz1 .i64 .i64 (n : Int) (n : Int) n rfl rfl rfl rfl (by rw [hz2]; omega) (by unfold maxLen; omega) (Nat.zero_le _) ?_; intro w2 ho2 hg2)
  go_ret2
  have hb2 : Below w1.heap.size w1 w2 := (Below.refl _ _).grown hg2 (Nat.le_refl _) (fun k hk => by cases hk)
  have hal := below_al w2 (Obj.cells #[Value.pointer (some sp), Value.slice (some ⟨w1.heap.size, 0, none⟩) n n, Value.int .u64 0] 71)
  have hs12 := hb2.size
  have hb3 := hb2.trans (hal.mono hs12)
  have hlt := (row_lt ho2 w1.heap.size rfl).2
  have hs01 := hb.size
  rw [cels_zero] at ho2
  refine ⟨w2.heap.size, sp, w1.heap.size, Fs, rfl, ⟨I.below hs hb3, heap_alloc_new w2 _, row_below ho2 hal, fun _ _ => ⟨rfl, rfl⟩, fun _ => ⟨Int.le_refl 0, show (0 : Int) ≤ 9223372036854775807 by decide⟩, fun hf => ?_, fun k hk => ?_⟩, fun k hk => ?_, hb.trans (hb3.mono hs01)⟩
  · have := I.dom hs _ hf; omega
  · simp [Value.ownBlock] at hk
    subst hk
    exact ⟨fun hf => by have := I.dom hs _ hf; omega, by omega⟩
  · rcases hk with rfl | ⟨x, hx, rfl⟩ | hk
    · omega
    · simp at hx; subst hx; exact hs01
    · exact hF k hk
end
end Go.Proofs.Ytehaffcjoafkcaa
set_option linter.unusedVariables false
namespace Go.Proofs.Ytehaffcjoafkcaa
open Go.RowKit
def sltZ : Value := .agg #[.bool false, .int .i64 0, .int .u32 0, .int .i64 0, .int .i64 0, .int .u32 0, .int .u32 0, .int .i64 0, .int .i64 0, .int .i64 0, .int .i64 0]
theorem sltInfo : (Try.prog.info? 92).map (fun i => (i.zero, i.size, i.bytes)) = some (some sltZ, 11, 80) := by kernel_rfl
def slp (A : Ar) (k : Nat) : List Value := (List.range' 1 k).flatMap (slotV A)
theorem slp_succ (A : Ar) (k : Nat) : slp A (k + 1) = slp A k ++ slotV A (k + 1) := by
  unfold slp
  rw [List.range'_concat, List.flatMap_append]
  simp [Nat.add_comm]
theorem newc11 (w : World) (xs : Array Value) (t : TypeId) : ∀ j u, xs.toList[j]? = some u → (w.alloc (.cells xs t)).cell? ((⟨w.heap.size, 0, none⟩ : Addr).add j) = some u := by
  intro j u hu
  have e : (⟨w.heap.size, 0, none⟩ : Addr).add j = ⟨w.heap.size, j, none⟩ := by unfold Addr.add; split <;> simp_all
  rw [e, cell_of_row _ _ _ _ _ _ (heap_alloc_new w (.cells xs t))]
  simpa using hu
theorem slotV_ones (A : Ar) (k : Nat) : ∀ u ∈ slotV A k, u.oneCell' = true := by
  intro u hu
  simp [slotV, ndV] at hu
  rcases hu with rfl | rfl | rfl | rfl | rfl | rfl | rfl | rfl | rfl | rfl | rfl <;> rfl
theorem step_append11 {P : Program} {w : World} {ops : Array Oper} {o : Oper} {a : Act} {K : Act → World → Prop} {Q : Exit → Act → World → Prop} {E : Prop} (hgd : o.guard = none) (s x : Operand) (t : TypeId)
    (ho : o.op = .call { callee := .builtin .append, args := #[s, x], argTypes := #[t, t] })
    (base : Nat) (e : TypeId) (i : TypeInfo) (z : Value) (size bytes : Nat) (ht : P.underlying t = some (.slice e)) (hi : P.info? e = some i) (hz : i.zero = some z)
    (hsize : i.size = size) (hby : i.bytes = bytes) (hzs : z.cells.size = size) (hsz : 0 < size)
    (v : Value) (n : Nat) (xs : List Value) (hs : a.eval s = v) (hown : w.ownsRow base e size v n xs)
    (ad : Addr) (m c : Nat) (news : List Value) (hx : a.eval x = .slice (some ad) m c) (hl : news.length = m * size) (hnews : ∀ j u, news[j]? = some u → w.cell? (ad.add j) = some u) (h1 : ∀ u ∈ news, u.oneCell' = true)
    (h63 : n + m ≤ maxLen) (hbytes : (n + m) * bytes ≤ 140737488355328) (hbase : base ≤ w.heap.size)
    (h : ∀ v' w', w'.ownsRow base e size v' (n + m) (xs ++ news) → w.grownBy w' v.ownBlock → K (a.put o.dst v') w') : if Region.wanted o (yielded ops a.tmps) = true then Oper.wp P o a w K Q else E := by
  have hw : Region.wanted o (yielded ops a.tmps) = true := by simp [Region.wanted, hgd]
  rw [if_pos hw]
  exact wp_append_own w s x t ho base e i z size bytes ht hi hz hsize hby hzs hsz v n xs hs hown ad m c news hx hl hnews h1 h63 hbytes hbase fun v' w' h2 h3 _ => h v' w' h2 h3
/-- the description at hand in memory, after k slots -/
structure DmpRel (A : Ar) (B : Nat) (w3 : World) (k : Nat) (x : Value) (wr : World) : Prop where
  val : ∃ a c, x = .slice a k c
  row : wr.ownsRow B 92 11 x k (slp A k)
  below : Below w3.heap.size w3 wr
def ADumpR (w : World) (A : Ar) (e : Ending) (w' : World) : Prop :=
  ∃ a c b d, e = .returned (.agg #[.slice a A.σ.cap c, .slice b A.σ.free.length d]) ∧ w'.ownsRow w.heap.size 92 11 (.slice a A.σ.cap c) A.σ.cap (slotsV A) ∧
      w'.ownsRow w.heap.size 26 1 (.slice b A.σ.free.length d) A.σ.free.length (u32s A.σ.free) ∧ Below w.heap.size w w'
theorem row9n {w : World} {g : Nat} {t : TypeId} {c0 c1 c2 c3 c4 c5 c6 c7 c8 : Value} (h : w.heap[g]? = some (.cells #[c0, c1, c2, c3, c4, c5, c6, c7, c8] t (0, 0))) :
    w.cell? ⟨g, 0, none⟩ = some c0 ∧ w.cell? ⟨g, 1, none⟩ = some c1 ∧ w.cell? ⟨g, 2, none⟩ = some c2 ∧ w.cell? ⟨g, 3, none⟩ = some c3 ∧ w.cell? ⟨g, 4, none⟩ = some c4 ∧ w.cell? ⟨g, 5, none⟩ = some c5 ∧ w.cell? ⟨g, 6, none⟩ = some c6 ∧ w.cell? ⟨g, 7, none⟩ = some c7 ∧ w.cell? ⟨g, 8, none⟩ = some c8 := by
  refine ⟨?_, ?_, ?_, ?_, ?_, ?_, ?_, ?_, ?_⟩ <;> (rw [cell_of_row _ _ _ _ _ _ h]; rfl)
/-- the nine cells of a slot, as an array -/
def celA (A : Ar) (i : Nat) : Array Value := #[.int .i64 (A.nd i).key, .int .i64 (A.nd i).val, .int .u32 ((A.nd i).left : Int), .int .u32 ((A.nd i).right : Int), .int .i64 (A.nd i).size, .int .i64 (A.nd i).sum, .int .i64 (A.nd i).mn, .int .i64 (A.nd i).mx, .int .i64 (A.cnt i)]
section
variable {I : Impl} {w w' wr : World} {ab : Nat} {sp : Addr} {A A' : Ar} {rd : Int} {cc g : Nat} {Fs Fs' : Nat → Prop}
set_option maxHeartbeats 4000000 in
set_option maxRecDepth 100000 in
theorem a_dump (h : LieA I w ab sp A rd (some ⟨g, 0, none⟩) cc Fs) : Calls Try.prog 26 #[.pointer (some ⟨ab, 0, none⟩)] w (ADumpR w A) := by
  obtain ⟨i0, hi, hz0, hz1, hz2⟩ := info_parts sltInfo
  have HU : Hid _ := Lib.hid Try.underlying61
  have hin : (Try.prog.info? 61).map (·.size) = some 2 := by kernel_rfl
  have HIN := Lib.hid hin
  have hcap := h.ok.cap2
  have hci : (A.σ.cap : Int) ≤ 65536 := by omega
  have hci0 : (0 : Int) ≤ (A.σ.cap : Int) := by omega
  have HOK := Lib.hid h.ok
  have hb1 := below_al w (Obj.cells #[Value.slice none 0 0, Value.slice none 0 0] 61)
  have h1 := h.below hb1
  have HP0 := Lib.hid (heap_alloc_new w (Obj.cells #[Value.slice none 0 0, Value.slice none 0 0] 61))
  have HB1 := Lib.hid hb1
  clear h hin hb1
  go_enter Try.func26, Try.ntmps26
  go_upto_region 1 with fail
  generalize w.alloc (Obj.cells #[Value.slice none 0 0, Value.slice none 0 0] 61) = w1 at h1 HP0 HB1 ⊢
  obtain ⟨p0, hp0⟩ : ∃ p0, w.heap.size = p0 := ⟨_, rfl⟩
  rw [hp0] at HP0 ⊢
  have HPP := Lib.hid hp0
  obtain ⟨c0, c1, c2⟩ := h1.cells
  have H1 := Lib.hid h1
  have hsz1 := HB1.out.size
  have hpl : p0 < w1.heap.size := (Array.getElem?_eq_some_iff.1 HP0.out).1
  rw [hp0] at hsz1
  have HPL := Lib.hid hpl
  clear h1 hp0 hpl
  go_upto_region 2 with (refine wpList_make_own _ rfl (.const (.int .i64 0)) (.tmp 11) 59 rfl w1.heap.size 92 i0 sltZ 11 Try.underlying59 hi hz0 hz1 .i64 .i64 (A.σ.cap : Int) A.σ.cap rfl rfl rfl (by rw [hz2]; omega) (by unfold maxLen; omega) (Nat.le_refl _) ?_; intro w2 ho2 hg2)
  have hb2 : Below w1.heap.size w1 w2 := (Below.refl _ _).grown hg2 (Nat.le_refl _) (fun k hk => by cases hk)
  have HREL : Hid (DmpRel A w1.heap.size w1 0 (.slice (some ⟨w1.heap.size, 0, none⟩) 0 A.σ.cap) w2) := ⟨⟨_, _, rfl⟩, ho2, hb2⟩
  have h2 := H1.out.below hb2
  clear c0 c1 c2 ho2 hg2 hb2 hsz1
  obtain ⟨c0, c1, c2⟩ := h2.cells
  clear h2
  go_wp2_with fail
  go_loopg [3, 18] A.σ.cap (fun gk x i wr => ∃ k, k ≤ A.σ.cap ∧ gk = A.σ.cap - k ∧ i = .int .i64 (k : Int) ∧ DmpRel A w1.heap.size w1 k x wr)
  case atStart => exact ⟨0, Nat.zero_le _, rfl, rfl, HREL.out⟩
  case round =>
    clear HREL c0 c1 c2
    obtain ⟨k, hk, hg, rfl, hR⟩ := hrel
    have HG := Lib.hid hg
    obtain ⟨xa, xc, rfl⟩ := hR.val
    have HL := Lib.hid (H1.out.below hR.below)
    have HR := Lib.hid hR
    clear hR hg
    by_cases hlt : k < A.σ.cap
    · have hki : (k : Int) < (A.σ.cap : Int) := by omega
      have hki0 : (0 : Int) ≤ (k : Int) := by omega
      obtain ⟨g0, g1, g2, g3, g4, g5, g6, g7, g8⟩ := HL.out.nine hlt
      have HLT := Lib.hid hlt
      have hal := below_al wr (Obj.cells (celA A (k + 1)) 79)
      have HX := Lib.hid (heap_alloc_new wr (Obj.cells (celA A (k + 1)) 79))
      have HL3 := Lib.hid (HL.out.below hal)
      have HR3 : Hid (DmpRel A w1.heap.size w1 k (.slice xa k xc) (wr.alloc (Obj.cells (celA A (k + 1)) 79))) := ⟨⟨_, _, rfl⟩, row_below HR.out.row hal, HR.out.below.trans (hal.mono HR.out.below.size)⟩
      clear hal hlt
      go_upto_region 5 with fail
      rw [show #[Value.int .i64 (A.nd (k + 1)).key, .int .i64 (A.nd (k + 1)).val, .int .u32 ((A.nd (k + 1)).left : Int), .int .u32 ((A.nd (k + 1)).right : Int), .int .i64 (A.nd (k + 1)).size, .int .i64 (A.nd (k + 1)).sum, .int .i64 (A.nd (k + 1)).mn, .int .i64 (A.nd (k + 1)).mx, .int .i64 (A.cnt (k + 1))] = celA A (k + 1) from rfl]
      clear g0 g1 g2 g3 g4 g5 g6 g7 g8
      generalize wr.alloc (Obj.cells (celA A (k + 1)) 79) = w3 at HX HL3 HR3 ⊢
      have HOWN : Hid (∀ b, (Value.slice xa k xc).ownBlock = some b → b < wr.heap.size) := fun b e => (row_lt HR.out.row b e).2
      generalize wr.heap.size = q at HX HOWN ⊢
      have hx := HX.out
      unfold celA at hx
      obtain ⟨g0, g1, g2, g3, g4, g5, g6, g7, g8⟩ := row9n hx
      obtain ⟨c0, c1, c2⟩ := HL3.out.cells
      have hkw : IntKind.u32.wrap ((k : Int) + 1) = (k : Int) + 1 := by rw [IntKind.wrap_u32']; omega
      have hcalls : ∀ wx : World, Below w3.heap.size w3 wx → Calls Try.prog 49 #[.pointer (some sp), .int .u32 ((k : Int) + 1)] wx (Quiet wx (.bool (A.σ.on (k + 1)))) ∧ Calls Try.prog 50 #[.pointer (some sp), .int .u32 ((k : Int) + 1)] wx (Quiet wx (.int .u32 (A.σ.gen (k + 1)))) := fun wx hb =>
        ⟨I.allocated _ _ _ (k + 1) _ (I.below HL3.out.slots hb) (by omega), I.generation _ _ _ (k + 1) _ (I.below HL3.out.slots hb) (by omega)⟩
      have HCALLS := Lib.hid hcalls
      have hrow : ∀ wx : World, Below w3.heap.size w3 wx → (wx.alloc (Obj.cells (slotV A (k + 1)).toArray 92)).ownsRow w1.heap.size 92 11 (.slice xa k xc) k (slp A k) := fun wx hb => row_below (row_below HR3.out.row hb) (below_al _ _)
      have HROW := Lib.hid hrow
      have hsz3 : w1.heap.size ≤ w3.heap.size := HR3.out.below.size
      have hafter : ∀ wx w6 : World, Below w3.heap.size w3 wx → (wx.alloc (Obj.cells (slotV A (k + 1)).toArray 92)).grownBy w6 (Value.slice xa k xc).ownBlock → Below w1.heap.size w1 w6 ∧ w6.cell? ⟨ab, 0, none⟩ = some (.pointer (some sp)) ∧ w6.cell? ⟨q, 8, none⟩ = some (.int .i64 (A.cnt (k + 1))) ∧
          w6.cell? ⟨q, 0, none⟩ = some (.int .i64 (A.nd (k + 1)).key) ∧ w6.cell? ⟨q, 1, none⟩ = some (.int .i64 (A.nd (k + 1)).val) ∧ w6.cell? ⟨q, 2, none⟩ = some (.int .u32 ((A.nd (k + 1)).left : Int)) ∧ w6.cell? ⟨q, 3, none⟩ = some (.int .u32 ((A.nd (k + 1)).right : Int)) ∧
          w6.cell? ⟨q, 4, none⟩ = some (.int .i64 (A.nd (k + 1)).size) ∧ w6.cell? ⟨q, 5, none⟩ = some (.int .i64 (A.nd (k + 1)).sum) ∧ w6.cell? ⟨q, 6, none⟩ = some (.int .i64 (A.nd (k + 1)).mn) ∧ w6.cell? ⟨q, 7, none⟩ = some (.int .i64 (A.nd (k + 1)).mx) := fun wx w6 hb hg => by
        have hb2 := trans_of' hb (below_al wx (Obj.cells (slotV A (k + 1)).toArray 92))
        have hown : ∀ b, (Value.slice xa k xc).ownBlock = some b → w1.heap.size ≤ b := fun b e => row_from HR.out.row b e
        have hb1 : Below w1.heap.size w1 (wx.alloc (Obj.cells (slotV A (k + 1)).toArray 92)) := HR3.out.below.trans (hb2.mono HR3.out.below.size)
        have hb6 := hb1.grown hg hb1.size hown
        have hc := (H1.out.below hb6).cells.1
        have hql : q < w3.heap.size := (Array.getElem?_eq_some_iff.1 HX.out).1
        have hq := (hg.block q (Nat.lt_of_lt_of_le hql hb2.size) (fun e => by have := HOWN.out q e.symm; omega)).trans ((hb2.block q hql).trans HX.out)
        unfold celA at hq
        obtain ⟨k0, k1, k2, k3, k4, k5, k6, k7, k8⟩ := row9n hq
        exact ⟨hb6, hc, k8, k0, k1, k2, k3, k4, k5, k6, k7⟩
      have HAFTER := Lib.hid hafter
      clear hx hcalls hrow hafter
      go_upto_region 6 with fail
      go_region_held3 (fun w' => w'.cell? ⟨ab, 0, none⟩ = some (.pointer (some sp)) ∧ w'.cell? ⟨q, 8, none⟩ = some (.int .i64 (A.cnt (k + 1))) ∧
        w'.cell? ⟨q, 0, none⟩ = some (.int .i64 (A.nd (k + 1)).key) ∧ w'.cell? ⟨q, 1, none⟩ = some (.int .i64 (A.nd (k + 1)).val) ∧ w'.cell? ⟨q, 2, none⟩ = some (.int .u32 ((A.nd (k + 1)).left : Int)) ∧ w'.cell? ⟨q, 3, none⟩ = some (.int .u32 ((A.nd (k + 1)).right : Int)) ∧
        w'.cell? ⟨q, 4, none⟩ = some (.int .i64 (A.nd (k + 1)).size) ∧ w'.cell? ⟨q, 5, none⟩ = some (.int .i64 (A.nd (k + 1)).sum) ∧ w'.cell? ⟨q, 6, none⟩ = some (.int .i64 (A.nd (k + 1)).mn) ∧ w'.cell? ⟨q, 7, none⟩ = some (.int .i64 (A.nd (k + 1)).mx)) (go_keep) (first
        | (go_at_call 49; refine (HCALLS.out _ (by exact ⟨rfl, rfl, rfl, Nat.le_refl _, fun _ _ => rfl⟩)).1.mono ?_; rintro e wx ⟨rfl, da, rfl⟩)
        | (go_at_call 50; refine (HCALLS.out _ (by exact ⟨rfl, rfl, rfl, Nat.le_refl _, fun _ _ => rfl⟩)).2.mono ?_; rintro e wx ⟨rfl, db, rfl⟩)
        | (refine step_append11 rfl (.tmp 26) (.tmp 44) 59 rfl w1.heap.size 92 i0 sltZ 11 80 Try.underlying59 hi hz0 hz1 hz2 rfl (by decide) _ k (slp A k) rfl (HROW.out _ (by exact ⟨rfl, rfl, rfl, Nat.le_refl _, fun _ _ => rfl⟩)) _ 1 1 (slotV A (k + 1)) rfl rfl (newc11 _ _ _) (slotV_ones A _) (by unfold maxLen; omega) (by omega) (by simp; omega) ?_; intro v6 w6 ho6 hg6; obtain ⟨va, vc, rfl⟩ := row_val ho6; obtain ⟨hb6, s0, s1, s2, s3, s4, s5, s6, s7, s8, s9⟩ := HAFTER.out _ w6 (by exact ⟨rfl, rfl, rfl, Nat.le_refl _, fun _ _ => rfl⟩) hg6))
      all_goals
        have HREL : Hid (DmpRel A w1.heap.size w1 (k + 1) (.slice va (k + 1) vc) w6) := ⟨⟨_, _, rfl⟩, by rw [slp_succ]; exact ho6, hb6⟩
        clear ho6 hg6 hb6 s0 s1 s2 s3 s4 s5 s6 s7 s8 s9 c0 c1 c2 g0 g1 g2 g3 g4 g5 g6 g7 g8
        go_wp2_with fail
        go_roundg (A.σ.cap - (k + 1))
        case measure => have := HG.out; have := HLT.out; omega
        case rel => exact ⟨k + 1, by have := HLT.out; omega, rfl, by go_num, HREL.out⟩
    · have hkc : k = A.σ.cap := by omega
      have hkci : ¬ (k : Int) < (A.σ.cap : Int) := by omega
      have HKC := Lib.hid hkc
      clear hkc hlt
      obtain ⟨c0, c1, c2⟩ := HL.out.cells
      go_wp2_with fail
      refine (I.order _ _ _ _ HL.out.slots).mono ?_
      rintro e w4 ⟨b, dd, rfl, hfr, hb4⟩
      have HFR := Lib.hid hfr
      have HR4 : Hid (DmpRel A w1.heap.size w1 k (.slice xa k xc) w4) := ⟨⟨_, _, rfl⟩, row_below HR.out.row hb4, HR.out.below.trans (hb4.mono HR.out.below.size)⟩
      have HP : Hid (w4.heap[p0]? = some (Obj.cells #[Value.slice none 0 0, Value.slice none 0 0] 61 (0, 0))) := (HR4.out.below.block p0 HPL.out).trans HP0.out
      have hs14 := HR.out.below.size
      clear c0 c1 c2 hfr hb4
      go_wp2_with (refine wpList_store_row rfl 61 (.tmp 2) (.tmp 53) rfl p0 #[.slice xa k xc, .slice b A.σ.free.length dd] rfl rfl 61 _ HP.out HIN.out rfl (by simp [Value.oneCell']) ?_)
      refine bodyPost_ret (v := .agg #[.slice xa k xc, .slice b A.σ.free.length dd]) (results_cell_row rfl _ _ p0 61 _ (0, 0) _ rfl (setRow_heap _ _ _ _ _ _ HP.out) HU.out rfl HIN.out) rfl ?_
      have hrow := HR4.out.row
      rw [HKC.out] at hrow ⊢
      have hpp := HPP.out
      have hpl := HPL.out
      have hbb := HB1.out.trans (HR4.out.below.mono HB1.out.size)
      refine ⟨xa, xc, b, dd, rfl, ?_, ?_, below_row hbb (by omega)⟩
      · refine row_mono (row_keep hrow fun j hj => setRow_other _ _ _ _ ?_) HB1.out.size
        have := row_from hrow j hj; omega
      · refine row_mono (row_keep HFR.out fun j hj => setRow_other _ _ _ _ ?_) (by omega)
        have := row_from HFR.out j hj; omega
end
end Go.Proofs.Ytehaffcjoafkcaa
set_option linter.unusedVariables false
namespace Go.Proofs.Ytehaffcjoafkcaa
open Go.RowKit
def IsA (I : Impl) (w : World) (p : Value) (A : Ar) (rd : Int) (F : Nat → Prop) : Prop :=
  ∃ (ab : Nat) (sp : Addr) (g cc : Nat) (Fs : Nat → Prop), p = .pointer (some ⟨ab, 0, none⟩) ∧ LieA I w ab sp A rd (some ⟨g, 0, none⟩) cc Fs ∧ ∀ k, F k ↔ FootA ab (some ⟨g, 0, none⟩) Fs k
def arenaImpl : AImpl where
  Is := IsA slotsImpl
  dom := fun h k hk => by
    obtain ⟨ab, sp, g, cc, Fs, rfl, hl, hF⟩ := h
    exact hl.dom k ((hF k).1 hk)
  keep := fun h hk => by
    obtain ⟨ab, sp, g, cc, Fs, rfl, hl, hF⟩ := h
    exact ⟨ab, sp, g, cc, Fs, rfl, hl.keep fun k h1 => hk k ((hF k).2 h1), hF⟩
  ok := fun h => by
    obtain ⟨ab, sp, g, cc, Fs, rfl, hl, hF⟩ := h
    exact hl.ok
  ptr := fun h => by
    obtain ⟨ab, sp, g, cc, Fs, rfl, hl, hF⟩ := h
    exact ⟨_, rfl⟩
  new_ok := fun n w h1 h2 => (a_new slotsImpl n w h1 h2).mono fun e w1 ⟨ab, sp, g, Fs, he, hl, hf, hb⟩ => ⟨_, FootA ab (some ⟨g, 0, none⟩) Fs, he, ⟨ab, sp, g, n, Fs, rfl, hl, fun k => Iff.rfl⟩, hf, hb⟩
  new_bad := a_new_bad slotsImpl
  make := fun p A rd F key val l r held w h hi ha hm h1 h2 h3 h4 h5 h6 => by
    obtain ⟨ab, sp, g, cc, Fs, rfl, hl, hF⟩ := h
    obtain rfl : F = FootA ab (some ⟨g, 0, none⟩) Fs := funext fun k => propext (hF k)
    refine (a_make hl ha key val l r h5 h6 h3 h4 (fun i hon => cnt_le hi hm hon)).mono ?_
    rintro e w1 ⟨Fs', hal, g1, g2, g3⟩
    refine ⟨FootA ab (some ⟨g, 0, none⟩) Fs', hal, fun hh => ?_, fun hh hf => ?_, fun hh i t hf => ?_⟩
    · exact ⟨(g1 hh).1, ab, sp, g, cc, Fs', rfl, (g1 hh).2, fun k => Iff.rfl⟩
    · exact ⟨(g2 hh hf).1, ab, sp, g, cc, Fs', rfl, (g2 hh hf).2, fun k => Iff.rfl⟩
    · exact ⟨(g3 hh i t hf).1, ab, sp, g, cc, Fs', rfl, (g3 hh i t hf).2, fun k => Iff.rfl⟩
  node := fun p A rd F i w h h0 h1 hi => by
    obtain ⟨ab, sp, g, cc, Fs, rfl, hl, hF⟩ := h
    obtain rfl : F = FootA ab (some ⟨g, 0, none⟩) Fs := funext fun k => propext (hF k)
    refine (a_node hl i hi h0 h1).mono ?_
    rintro e w1 ⟨rfl, h2, hal⟩
    refine ⟨FootA ab (some ⟨g, 0, none⟩) Fs, hal, fun ho => ?_, fun ho => ?_⟩
    · rw [ho, if_neg (by simp)] at h2
      exact ⟨by rw [ho, (hl.off i ho).2]; rfl, ab, sp, g, cc, Fs, rfl, h2, fun k => Iff.rfl⟩
    · rw [if_pos ho] at h2
      exact ⟨by rw [ho]; rfl, ab, sp, g, cc, Fs, rfl, h2, fun k => Iff.rfl⟩
  size := fun p A rd F i w h h0 h1 hi => by
    obtain ⟨ab, sp, g, cc, Fs, rfl, hl, hF⟩ := h
    obtain rfl : F = FootA ab (some ⟨g, 0, none⟩) Fs := funext fun k => propext (hF k)
    refine (a_size hl i hi h0 h1).mono ?_
    rintro e w1 ⟨rfl, h2, hal⟩
    refine ⟨FootA ab (some ⟨g, 0, none⟩) Fs, hal, fun ho => ?_, fun ho => ?_⟩
    · rw [ho, if_neg (by simp)] at h2
      exact ⟨by rw [(hl.off i ho).2]; rfl, ab, sp, g, cc, Fs, rfl, h2, fun k => Iff.rfl⟩
    · rw [if_pos ho] at h2
      exact ⟨rfl, ab, sp, g, cc, Fs, rfl, h2, fun k => Iff.rfl⟩
  retain := fun p A rd F i w h hi hc => by
    obtain ⟨ab, sp, g, cc, Fs, rfl, hl, hF⟩ := h
    obtain rfl : F = FootA ab (some ⟨g, 0, none⟩) Fs := funext fun k => propext (hF k)
    by_cases hx : A.Idx i
    · refine (a_retain hl i hi hx hc).mono ?_
      rintro e w1 ⟨rfl, h2, hal⟩
      exact ⟨FootA ab (some ⟨g, 0, none⟩) Fs, hal, fun h => absurd hx h, fun _ => ⟨rfl, ab, sp, g, cc, Fs, rfl, h2, fun k => Iff.rfl⟩⟩
    · refine (a_retain_bad hl i hi hx).mono ?_
      rintro e w1 ⟨rfl, hb⟩
      exact ⟨FootA ab (some ⟨g, 0, none⟩) Fs, .of_below hb, fun _ => ⟨rfl, ab, sp, g, cc, Fs, rfl, hl.below hb, fun k => Iff.rfl⟩, fun h => absurd h hx⟩
  release := fun p A rd F i held w h hi hinv => by
    obtain ⟨ab, sp, g, cc, Fs, rfl, hl, hF⟩ := h
    obtain rfl : F = FootA ab (some ⟨g, 0, none⟩) Fs := funext fun k => propext (hF k)
    by_cases hx : A.Idx i
    · refine (a_release hl i hi hx (hinv hx)).mono ?_
      rintro e w1 ⟨Fs', hal, rfl, h2⟩
      exact ⟨FootA ab (some ⟨g, 0, none⟩) Fs', hal, fun h => absurd hx h, fun _ => ⟨rfl, ab, sp, g, cc, Fs', rfl, h2, fun k => Iff.rfl⟩⟩
    · refine (a_release_bad hl i hi hx).mono ?_
      rintro e w1 ⟨rfl, hb⟩
      exact ⟨FootA ab (some ⟨g, 0, none⟩) Fs, .of_below hb, fun _ => ⟨rfl, ab, sp, g, cc, Fs, rfl, hl.below hb, fun k => Iff.rfl⟩, fun h => absurd h hx⟩
  freeN := fun p A rd F w h => by
    obtain ⟨ab, sp, g, cc, Fs, rfl, hl, hF⟩ := h
    exact a_free hl
  capacity := fun p A rd F w h => by
    obtain ⟨ab, sp, g, cc, Fs, rfl, hl, hF⟩ := h
    exact a_capacity hl
  dump := fun p A rd F w h => by
    obtain ⟨ab, sp, g, cc, Fs, rfl, hl, hF⟩ := h
    exact a_dump hl
end Go.Proofs.Ytehaffcjoafkcaa
set_option linter.unusedVariables false
namespace Go.Proofs.Ytehaffcjoafkcaa
open Go.RowKit
/-- the remainder that is never negative -/
theorem mod_any (n m : Int) (w : World) (h1 : -9223372036854775808 ≤ n) (h2 : n ≤ 9223372036854775807) (h3 : 1 ≤ m) (h4 : m ≤ 9223372036854775807) :
    Calls Try.prog 7 #[.int .i64 n, .int .i64 m] w fun e w' => e = .returned (.int .i64 (n % m)) ∧ w = w' := by
  by_cases h : 0 ≤ n
  · have hb := Int.emod_nonneg n (b := m) (by omega)
    have hc := Int.emod_lt_of_pos n (b := m) (by omega)
    go_enter Try.func7, Try.ntmps7
    go_wp2
    go_ret
    exact ⟨rfl, rfl⟩
  · have e := mod_of_tmod n m (by omega) h3
    have hb : -m < n.tmod m ∧ n.tmod m ≤ 0 := by
      rw [tmod_neg n m (by omega) h3]
      have h5 := Int.emod_nonneg (-n) (b := m) (by omega)
      have h6 := Int.emod_lt_of_pos (-n) (b := m) (by omega)
      omega
    obtain ⟨hb1, hb2⟩ := hb
    have H := Lib.hid e
    clear e
    go_enter Try.func7, Try.ntmps7
    go_wp2
    · have hlt : n.tmod m < 0 := by assumption
      go_ret
      exact ⟨ret_int (by rw [H.out, if_pos hlt]), rfl⟩
    · have hlt : 0 ≤ n.tmod m := by assumption
      go_ret
      exact ⟨ret_int (by rw [H.out, if_neg (by omega)]), rfl⟩
end Go.Proofs.Ytehaffcjoafkcaa
set_option linter.unusedVariables false
namespace Go.Proofs.Ytehaffcjoafkcaa
open Go.RowKit
section
variable {I : AImpl} {B : Nat} {w w' w0 : World} {p : Value} {A A' : Ar} {rd rd' : Int} {held held' : Nat → Nat}
theorem more_small {held : Nat → Nat} {m : Nat} (h : ∀ j, held j ≤ m) (i : Nat) : ∀ j, more held i j ≤ m + 1 := fun j => by
  unfold more
  split
  · have := h i; omega
  · have := h j; omega
end
end Go.Proofs.Ytehaffcjoafkcaa
set_option linter.unusedVariables false
set_option linter.unusedSimpArgs false
namespace Go.Proofs.Ytehaffcjoafkcaa
open Go.RowKit
structure En where
  key : Int
  val : Int
  deriving DecidableEq
def enV (e : En) : List Value := [.int .i64 e.key, .int .i64 e.val]
def ensV (l : List En) : List Value := l.flatMap enV
theorem ensV_snoc (l : List En) (e : En) : ensV (l ++ [e]) = ensV l ++ enV e := by simp [ensV]
theorem ensV_len (l : List En) : (ensV l).length = l.length * 2 := by
  induction l with
  | nil => rfl
  | cons a t ih => simp only [ensV, List.flatMap_cons, List.length_append, List.length_cons] at ih ⊢; rw [ih]; simp [enV]; omega
theorem ensV_at : ∀ (l : List En) (i j : Nat) (e : En), l[i]? = some e → j < 2 → (ensV l)[i * 2 + j]? = (enV e)[j]?
  | [], i, j, e, h, hj => by simp at h
  | a :: t, 0, j, e, h, hj => by
    simp at h; subst h
    show (enV a ++ ensV t)[0 * 2 + j]? = _
    rw [Nat.zero_mul, Nat.zero_add, List.getElem?_append_left (by exact hj)]
  | a :: t, i + 1, j, e, h, hj => by
    simp at h
    show (enV a ++ ensV t)[(i + 1) * 2 + j]? = _
    rw [List.getElem?_append_right (by show 2 ≤ _; omega), show (i + 1) * 2 + j - (enV a).length = i * 2 + j by show (i + 1) * 2 + j - 2 = _; omega]
    exact ensV_at t i j e h hj
def i64R (x : Int) : Prop := -9223372036854775808 ≤ x ∧ x ≤ 9223372036854775807
/-- a slice of entries, read -/
structure EnsAt (w : World) (a : Option Addr) (l : List En) : Prop where
  cell : ∀ j e, l[j]? = some e → ∃ b off, a = some ⟨b, off, none⟩ ∧ b < w.heap.size ∧ w.cell? ⟨b, off + j * 2, none⟩ = some (.int .i64 e.key) ∧ w.cell? ⟨b, off + j * 2 + 1, none⟩ = some (.int .i64 e.val)
  wf : ∀ e ∈ l, i64R e.key ∧ i64R e.val
theorem EnsAt.below {w w' : World} {a : Option Addr} {l : List En} (h : EnsAt w a l) (hb : Below w.heap.size w w') : EnsAt w' a l := by
  refine ⟨fun j e he => ?_, h.wf⟩
  obtain ⟨b, off, ha, hlt, h1, h2⟩ := h.cell j e he
  exact ⟨b, off, ha, Nat.lt_of_lt_of_le hlt hb.size, by rw [← h1]; exact hb.cell (p := ⟨b, off + j * 2, none⟩) hlt, by rw [← h2]; exact hb.cell (p := ⟨b, off + j * 2 + 1, none⟩) hlt⟩
theorem EnsAt.nil (w : World) (a : Option Addr) : EnsAt w a [] := ⟨fun j e he => by simp at he, fun e he => by cases he⟩
theorem ens_at {w : World} {B c : Nat} {a : Option Addr} {l : List En} (h : w.ownsRow B 31 2 (.slice a l.length c) l.length (ensV l)) (hw : ∀ e ∈ l, i64R e.key ∧ i64R e.val) : EnsAt w a l := by
  refine ⟨fun j e he => ?_, hw⟩
  have hj : j < l.length := (List.getElem?_eq_some_iff.1 he).1
  rcases h.2 with ⟨hv, hn⟩ | ⟨g, cap, cur, hv, hB, hc, hn, hcm, hs, ht⟩
  · omega
  · simp only [Value.slice.injEq] at hv
    obtain ⟨rfl, _, _⟩ := hv
    refine ⟨g, 0, rfl, (Array.getElem?_eq_some_iff.1 hc).1, ?_, ?_⟩
    · rw [Nat.zero_add, h.cellAt (j * 2) (by omega), show j * 2 = j * 2 + 0 from rfl, ensV_at l j 0 e he (by omega)]; rfl
    · rw [Nat.zero_add, h.cellAt (j * 2 + 1) (by omega), ensV_at l j 1 e he (by omega)]; rfl
def insF (e : En) : List En → Bool → List En
  | [], d => if d then [] else [e]
  | x :: t, d => (if (!d && decide (e.key ≤ x.key)) = true then [e] else []) ++ (if x.key ≠ e.key then [x] else []) ++ insF e t (d || (!d && decide (e.key ≤ x.key)))
def insE (l : List En) (e : En) : List En := insF e l false
def listE (l : List En) (k : Nat) : List En := (l.take k).foldl insE []
def Up (l : List En) : Prop := l.Pairwise (fun x y => x.key < y.key)
theorem insF_true (e : En) : ∀ t : List En, insF e t true = t.filter fun x => decide (x.key ≠ e.key)
  | [] => rfl
  | x :: t => by
    unfold insF
    rw [show (true || (!true && decide (e.key ≤ x.key))) = true from rfl, insF_true e t]
    by_cases h : x.key = e.key <;> simp [h]
theorem insF_mem (e : En) : ∀ (l : List En) (d : Bool) (y : En), y ∈ insF e l d → y ∈ l ∨ y = e
  | [], d, y, h => by
    unfold insF at h
    cases d <;> simp at h
    exact .inr h
  | x :: t, d, y, h => by
    unfold insF at h
    rcases List.mem_append.1 h with h | h
    · rcases List.mem_append.1 h with h | h
      · split at h
        · simp at h; exact .inr h
        · cases h
      · split at h
        · simp at h; exact .inl (by simp [h])
        · cases h
    · rcases insF_mem e t _ y h with h | h
      · exact .inl (by simp [h])
      · exact .inr h
theorem insF_up (e : En) : ∀ (l : List En), Up l → Up (insF e l false)
  | [], h => by unfold insF; simp [Up]
  | x :: t, h => by
    unfold Up at h
    rw [List.pairwise_cons] at h
    unfold insF
    by_cases hx : e.key ≤ x.key
    · have e1 : (!false && decide (e.key ≤ x.key)) = true := by simp [hx]
      rw [if_pos e1, show (false || (!false && decide (e.key ≤ x.key))) = true by simp [hx], insF_true]
      have hf : Up (t.filter fun x => decide (x.key ≠ e.key)) := h.2.filter _
      have hm : ∀ y ∈ t.filter (fun x => decide (x.key ≠ e.key)), x.key < y.key := fun y hy => h.1 y (List.mem_filter.1 hy).1
      by_cases hne : x.key ≠ e.key
      · rw [if_pos hne]
        show Up (e :: x :: t.filter _)
        unfold Up
        rw [List.pairwise_cons, List.pairwise_cons]
        refine ⟨fun y hy => ?_, hm, hf⟩
        rcases List.mem_cons.1 hy with rfl | hy
        · omega
        · have := hm y hy; omega
      · rw [if_neg hne]
        show Up (e :: t.filter _)
        unfold Up
        rw [List.pairwise_cons]
        exact ⟨fun y hy => by have := hm y hy; omega, hf⟩
    · have e1 : ¬ (!false && decide (e.key ≤ x.key)) = true := by simp [hx]
      rw [if_neg e1, show (false || (!false && decide (e.key ≤ x.key))) = false by simp [hx], if_pos (show x.key ≠ e.key by omega)]
      show Up (x :: insF e t false)
      unfold Up
      rw [List.pairwise_cons]
      refine ⟨fun y hy => ?_, insF_up e t h.2⟩
      rcases insF_mem e t false y hy with h1 | rfl
      · exact h.1 y h1
      · omega
theorem insF_len (e : En) : ∀ (l : List En) (d : Bool), (insF e l d).length ≤ l.length + (if d then 0 else 1)
  | [], d => by unfold insF; cases d <;> simp
  | x :: t, d => by
    unfold insF
    have h := insF_len e t (d || (!d && decide (e.key ≤ x.key)))
    cases d
    · by_cases hx : e.key ≤ x.key
      · simp [hx] at h ⊢
        split <;> simp <;> omega
      · simp [hx] at h ⊢
        split <;> simp <;> omega
    · simp at h ⊢
      split <;> simp <;> omega
theorem insE_up {l : List En} (e : En) (h : Up l) : Up (insE l e) := insF_up e l h
theorem insE_mem {l : List En} {e y : En} (h : y ∈ insE l e) : y ∈ l ∨ y = e := insF_mem e l false y h
theorem insE_len (l : List En) (e : En) : (insE l e).length ≤ l.length + 1 := by have h := insF_len e l false; unfold insE; simp at h; omega
theorem foldl_up : ∀ (l acc : List En), Up acc → Up (l.foldl insE acc)
  | [], acc, h => h
  | x :: t, acc, h => foldl_up t _ (insE_up x h)
theorem foldl_len : ∀ (l acc : List En), (l.foldl insE acc).length ≤ acc.length + l.length
  | [], acc => by simp
  | x :: t, acc => by
    have h1 := foldl_len t (insE acc x)
    have h2 := insE_len acc x
    simp only [List.foldl_cons, List.length_cons]
    omega
theorem foldl_mem : ∀ (l acc : List En) (y : En), y ∈ l.foldl insE acc → y ∈ acc ∨ y ∈ l
  | [], acc, y, h => .inl h
  | x :: t, acc, y, h => by
    rcases foldl_mem t _ y h with h1 | h1
    · rcases insE_mem h1 with h2 | h2
      · exact .inl h2
      · exact .inr (by simp [h2])
    · exact .inr (by simp [h1])
theorem listE_up (l : List En) (k : Nat) : Up (listE l k) := foldl_up _ _ List.Pairwise.nil
theorem listE_len (l : List En) (k : Nat) : (listE l k).length ≤ k := by have h := foldl_len (l.take k) []; have h2 := List.length_take_le k l; unfold listE; simp at h; omega
theorem listE_mem {l : List En} {k : Nat} {y : En} (h : y ∈ listE l k) : y ∈ l := by
  rcases foldl_mem _ _ y h with h1 | h1
  · cases h1
  · exact List.mem_of_mem_take h1
theorem listE_succ {l : List En} {k : Nat} (h : k < l.length) : listE l (k + 1) = insE (listE l k) l[k] := by
  unfold listE
  rw [List.take_succ_eq_append_getElem h, List.foldl_append]
  rfl
theorem enInfo : (Try.prog.info? 31).map (fun i => (i.zero, i.size, i.bytes)) = some (some (.agg #[.int .i64 0, .int .i64 0]), 2, 16) := by kernel_rfl
structure ESt (Z : Nat) (w2 : World) (l : List En) (v : Value) (wr : World) : Prop where
  val : ∃ a c, v = .slice a l.length c
  row : wr.ownsRow Z 31 2 v l.length (ensV l)
  below : Below Z w2 wr
section
variable {Z : Nat} {w2 wr w' : World} {l : List En} {v v' : Value}
theorem ESt.from (h : ESt Z w2 l v wr) (hb : Below wr.heap.size wr w') (hZ : w2.heap.size = Z) : ESt Z w2 l v w' :=
  ⟨h.val, row_below h.row hb, h.below.trans (hb.mono (by have := h.below.size; omega))⟩
theorem ESt.start (w2 : World) (hZ : w2.heap.size = Z) : ESt Z w2 [] (.slice none 0 0) w2 := ⟨⟨none, 0, rfl⟩, World.ownsRow_nil _ _ _ _, Below.refl _ _⟩
theorem cell_newE (w : World) (e : En) (t : TypeId) : ∀ j v, (enV e)[j]? = some v → (w.alloc (.cells #[.int .i64 e.key, .int .i64 e.val] t)).cell? ((⟨w.heap.size, 0, none⟩ : Addr).add j) = some v := by
  intro j v hu
  match j, hu with
  | 0, hu => simp [enV] at hu; subst hu; simp [Addr.add]
  | 1, hu => simp [enV] at hu; subst hu; simp [Addr.add]
theorem en_one (e : En) : ∀ u ∈ enV e, u.oneCell' = true := by
  intro u hu
  simp [enV] at hu
  rcases hu with rfl | rfl <;> rfl
theorem wpList_append_en {ops : Array Oper} {rest : List Oper} {o : Oper} {a : Act} {w : World} {Q : Exit → Act → World → Prop} (hgd : o.guard = none) (s x : Operand)
    (ho : o.op = .call { callee := .builtin .append, args := #[s, x], argTypes := #[22, 22] })
    (hc : ESt Z w2 l v w) (hZ : w2.heap.size = Z) (hs : a.eval s = v) (e : En) (g : Nat) (hx : a.eval x = .slice (some ⟨g, 0, none⟩) 1 1)
    (hn : ∀ j u, (enV e)[j]? = some u → w.cell? ((⟨g, 0, none⟩ : Addr).add j) = some u) (hl : l.length ≤ 100000000)
    (h : ∀ v' w', ESt Z w2 (l ++ [e]) v' w' → wpList Try.prog ops Q rest (a.put o.dst v') w') : wpList Try.prog ops Q (o :: rest) a w := by
  obtain ⟨i, ji, jz0, jz1, jz2⟩ := info_parts enInfo
  refine wpList_append_own _ hgd s x 22 ho Z 31 i (.agg #[.int .i64 0, .int .i64 0]) 2 16 Try.underlying22 ji jz0 jz1 jz2 rfl (by decide) v l.length (ensV l) hs hc.row ⟨g, 0, none⟩ 1 1 (enV e) hx rfl hn (en_one e) (by unfold maxLen; omega) (by omega) (by have := hc.below.size; omega) ?_
  intro v' w' ho' hg _
  refine h v' w' ?_
  obtain ⟨a', c', hv⟩ := row_val ho'
  refine ⟨⟨a', c', by rw [List.length_append]; exact hv⟩, ?_, hc.below.grown hg (by have := hc.below.size; omega) (row_from hc.row)⟩
  rw [List.length_append, ensV_snoc]
  exact ho'
end
def MadeEns (w : World) (l : List En) (e : Ending) (w' : World) : Prop :=
  ∃ a c, e = .returned (.slice a l.length c) ∧ w'.ownsRow w.heap.size 31 2 (.slice a l.length c) l.length (ensV l) ∧ Below w.heap.size w w'
end Go.Proofs.Ytehaffcjoafkcaa
set_option linter.unusedVariables false
namespace Go.Proofs.Ytehaffcjoafkcaa
/-- a reference that isn't the last one is removed, one of 0 too -/
theorem gone_shared {A : Ar} {i : Nat} (h0 : i ≠ 0) (hc : A.cnt i ≠ 1) : A.gone i = A.dec i ∧ A.freed i = 0 := by
  unfold Ar.gone Ar.freed Ar.fuel
  have h1 : Ar.run (3 * A.σ.cap + 1) A [i] = Ar.run (3 * A.σ.cap) (A.dec i) [] := by
    conv => lhs; unfold Ar.run
    rw [if_neg h0, if_neg hc]
  rw [h1]
  cases 3 * A.σ.cap <;> exact ⟨rfl, rfl⟩
theorem gone_zero (A : Ar) : A.gone 0 = A ∧ A.freed 0 = 0 := by
  unfold Ar.gone Ar.freed Ar.fuel
  have h1 : Ar.run (3 * A.σ.cap + 1) A [0] = Ar.run (3 * A.σ.cap) A [] := by
    conv => lhs; unfold Ar.run
    rw [if_pos rfl]
  rw [h1]
  cases 3 * A.σ.cap <;> exact ⟨rfl, rfl⟩
/-- the root alone is held -/
def hk (k : Nat) : Nat → Nat := fun j => if j = k ∧ k ≠ 0 then 1 else 0
end Go.Proofs.Ytehaffcjoafkcaa
set_option linter.unusedVariables false
namespace Go.Proofs.Ytehaffcjoafkcaa
/-- what was there stays, nodes and all -/
structure Ar.Kept (A B : Ar) : Prop where
  cap : B.σ.cap = A.σ.cap
  on : ∀ j, A.σ.on j = true → B.σ.on j = true
  nd : ∀ j, A.σ.on j = true → B.nd j = A.nd j
theorem Ar.Kept.refl (A : Ar) : A.Kept A := ⟨rfl, fun _ h => h, fun _ _ => rfl⟩
theorem Ar.Kept.trans {A B C : Ar} (h : A.Kept B) (h' : B.Kept C) : A.Kept C := ⟨h'.cap.trans h.cap, fun j hj => h'.on j (h.on j hj), fun j hj => (h'.nd j (h.on j hj)).trans (h.nd j hj)⟩
theorem Ar.Kept.dec (A : Ar) (i : Nat) : A.Kept (A.dec i) := ⟨rfl, fun _ h => h, fun _ _ => rfl⟩
theorem Ar.Kept.idx {A B : Ar} (h : A.Kept B) {i : Nat} (hi : i = 0 ∨ A.σ.on i = true) : i = 0 ∨ B.σ.on i = true := hi.imp_right (h.on i)
theorem Ar.Kept.made {A : Ar} {i : Nat} {t : List Nat} (x : Nd) {s : List Nat} {held : Nat → Nat} (h : A.Inv s held) (hf : A.σ.free = i :: t) : A.Kept (A.made i t x) := by
  have hi := ((h.ok.free i).1 (by rw [hf]; simp)).2.2
  have hne : ∀ j, A.σ.on j = true → j ≠ i := fun j hj e => by subst e; rw [hi] at hj; cases hj
  exact ⟨rfl, fun j hj => (take_other A.σ t (hne j hj)).trans hj, fun j hj => if_neg (hne j hj)⟩
theorem Sub.kept {A B : Ar} (hk : A.Kept B) {i : Nat} {t : Tr} (h : Sub A i t) : Sub B i t := by
  induction h with
  | nil => exact .nil
  | node i l r h0 h1 hl hr ihl ihr => exact .node i l r h0 (hk.on i h1) (by rw [hk.nd i h1]; exact ihl) (by rw [hk.nd i h1]; exact ihr)
theorem Sub.on {A : Ar} {i : Nat} {t : Tr} (h : Sub A i t) : ∀ j ∈ t.idx, A.σ.on j = true := by
  induction h with
  | nil => intro j hj; cases hj
  | node i l r h0 h1 hl hr ihl ihr =>
    intro j hj
    unfold Tr.idx at hj
    rcases List.mem_append.1 hj with hj | hj
    · exact ihl j hj
    · rcases List.mem_cons.1 hj with rfl | hj
      · exact h1
      · exact ihr j hj
/-- the entries in the order of the tree -/
def Tr.ents (nd : Nat → Nd) (t : Tr) : List En := t.idx.map fun i => ⟨(nd i).key, (nd i).val⟩
theorem Tr.ents_node (nd : Nat → Nd) (i : Nat) (l r : Tr) : (Tr.node i l r).ents nd = l.ents nd ++ ⟨(nd i).key, (nd i).val⟩ :: r.ents nd := by simp [Tr.ents, Tr.idx]
theorem Tr.ents_keys (nd : Nat → Nd) (t : Tr) : t.keys nd = (t.ents nd).map (·.key) := by simp [Tr.keys, Tr.ents]
theorem Tr.idx_len : ∀ t : Tr, t.idx.length = t.size
  | .nil => rfl
  | .node i l r => by simp [Tr.idx, Tr.size, Tr.idx_len l, Tr.idx_len r]; omega
theorem Tr.ents_len (nd : Nat → Nd) (t : Tr) : (t.ents nd).length = t.size := by unfold Tr.ents; rw [List.length_map, Tr.idx_len]
theorem Tr.ents_kept {A B : Ar} (hk : A.Kept B) {i : Nat} {t : Tr} (h : Sub A i t) : t.ents B.nd = t.ents A.nd := by
  unfold Tr.ents
  exact List.map_congr_left fun j hj => by rw [hk.nd j (h.on j hj)]
/-- balanced, by the sizes of the trees -/
def Tr.bal : Tr → Bool
  | .nil => true
  | .node i l r => Proofs.Ytehaffcjoafkcaa.bal (l.size : Int) (r.size : Int) && l.bal && r.bal
theorem balT_bal {A : Ar} (ha : A.Agg) {i : Nat} {t : Tr} (h : Sub A i t) : balT A t = t.bal := by
  induction h with
  | nil => rfl
  | node i l r h0 h1 hl hr ihl ihr => unfold balT Tr.bal; rw [hl.size ha, hr.size ha, ihl, ihr]
/-- a reference more, of 0 none -/
def pls (held : Nat → Nat) (i : Nat) : Nat → Nat := if i = 0 then held else more held i
theorem pls_zero (held : Nat → Nat) : pls held 0 = held := rfl
theorem pls_at (held : Nat → Nat) (i j : Nat) : pls held i j = held j + (if i ≠ 0 ∧ j = i then 1 else 0) := by
  unfold pls more
  by_cases h : i = 0
  · rw [if_pos h, if_neg (fun h1 => h1.1 h)]; rfl
  · rw [if_neg h]
    by_cases e : j = i
    · subst e; show (if j = j then _ else _) = _; rw [if_pos rfl, if_pos ⟨h, rfl⟩]
    · show (if j = i then _ else _) = _; rw [if_neg e, if_neg (fun h1 => e h1.2)]; rfl
theorem more_pls {held : Nat → Nat} {i : Nat} (h : i ≠ 0) : more held i = pls held i := by unfold pls; rw [if_neg h]
/-- a reference less, of 0 none -/
def mns (held : Nat → Nat) (i : Nat) : Nat → Nat := if i = 0 then held else less held i
theorem mns_at (held : Nat → Nat) (i j : Nat) : mns held i j = held j - (if i ≠ 0 ∧ j = i then 1 else 0) := by
  unfold mns less
  by_cases h : i = 0
  · rw [if_pos h, if_neg (fun h1 => h1.1 h)]; rfl
  · rw [if_neg h]
    by_cases e : j = i
    · subst e; show (if j = j then _ else _) = _; rw [if_pos rfl, if_pos ⟨h, rfl⟩]
    · show (if j = i then _ else _) = _; rw [if_neg e, if_neg (fun h1 => e h1.2)]; rfl
/-- a held reference given back where another one is there -/
theorem Ar.Inv.shared {A : Ar} {held : Nat → Nat} (h : A.Inv [] held) {i : Nat} (hi : i ≠ 0 → 0 < held i ∧ 2 ≤ A.cnt i) (ha : A.Agg) :
    (A.Idx i → A.Inv [i] (mns held i)) ∧ A.Idx i ∧ (A.gone i).Inv [] (mns held i) ∧ (A.gone i).Agg ∧ A.Kept (A.gone i) ∧ (A.gone i).σ = A.σ ∧ ∀ j, (A.gone i).cnt j = A.cnt j - (if i ≠ 0 ∧ j = i then 1 else 0) := by
  by_cases h0 : i = 0
  · subst h0
    rw [(gone_zero A).1]
    exact ⟨fun _ => h.give0, .inl rfl, h, ha, .refl A, rfl, fun j => by rw [if_neg (fun h => h.1 rfl)]; omega⟩
  · obtain ⟨h1, h2⟩ := hi h0
    have hon := h.held i h1
    rw [(gone_shared h0 (by omega)).1]
    have e : mns held i = less held i := by unfold mns; rw [if_neg h0]
    rw [e]
    refine ⟨fun _ => h.give h1, .inr hon, (h.give h1).popDec hon h2, ha.dec i, .dec A i, rfl, fun j => ?_⟩
    show (if j = i then A.cnt i - 1 else A.cnt j) = _
    by_cases e2 : j = i
    · subst e2; rw [if_pos rfl, if_pos ⟨h0, rfl⟩]
    · rw [if_neg e2, if_neg (fun h => e2 h.2)]; omega
structure Planted (A : Ar) (held : Nat → Nat) (l : List En) (A' : Ar) (i : Nat) (t : Tr) : Prop where
  kept : A.Kept A'
  inv : A'.Inv [] (pls held i)
  agg : A'.Agg
  sub : Sub A' i t
  ents : t.ents A'.nd = l
  bal : t.bal = true
  free : A'.σ.free.length + l.length = A.σ.free.length
theorem Planted.nil {A : Ar} {held : Nat → Nat} (h : A.Inv [] held) (ha : A.Agg) : Planted A held [] A 0 .nil := ⟨.refl A, h, ha, .nil, rfl, rfl, rfl⟩
theorem Planted.size {A A' : Ar} {held : Nat → Nat} {l : List En} {i : Nat} {t : Tr} (h : Planted A held l A' i t) : t.size = l.length := by rw [← h.ents, Tr.ents_len]
theorem Planted.sz {A A' : Ar} {held : Nat → Nat} {l : List En} {i : Nat} {t : Tr} (h : Planted A held l A' i t) : A'.sz i = (l.length : Int) := by rw [h.sub.size h.agg, h.size]
/-- the state behind Make and the two releases -/
def Ar.over (A : Ar) (i : Nat) (tl : List Nat) (x : Nd) : Ar := ((A.made i tl x).gone x.left).gone x.right
theorem made_cnt {A : Ar} {held : Nat → Nat} {i : Nat} {tl : List Nat} {x : Nd} (h : A.Inv [] held) (hf : A.σ.free = i :: tl) {j : Nat} (hj : A.σ.on j = true) : (A.made i tl x).cnt j = A.cnt j + (hit x.left j : Int) + (hit x.right j : Int) := by
  have hi := ((h.ok.free i).1 (by rw [hf]; simp)).2.2
  have hne : j ≠ i := fun e => by subst e; rw [hi] at hj; cases hj
  have h0 := (h.ok.on j hj).1
  show (if j = i then (1 : Int) else if j = 0 then A.cnt 0 else A.cnt j + _ + _) = _
  rw [if_neg hne, if_neg (by omega)]
theorem over_ok {A : Ar} {held : Nat → Nat} {i : Nat} {tl : List Nat} {key val : Int} {il ir : Nat} {x : Nd} (hx : x = A.node key val il ir) (h : A.Inv [] (pls (pls held il) ir)) (ha : A.Agg) (hf : A.σ.free = i :: tl) (hl : il = 0 ∨ A.σ.on il = true) (hr : ir = 0 ∨ A.σ.on ir = true) (hs : x.size ≤ 2147483647) :
    (A.over i tl x).Inv [] (pls held i) ∧ (A.over i tl x).Agg ∧ A.Kept (A.over i tl x) ∧ (A.over i tl x).σ = A.σ.take i tl ∧ (A.over i tl x).nd i = x ∧ i ≠ 0 ∧
    ((A.made i tl x).Idx il → (A.made i tl x).Inv [il] (mns (more (pls (pls held il) ir) i) il)) ∧ (A.made i tl x).Idx il ∧
    (((A.made i tl x).gone il).Idx ir → ((A.made i tl x).gone il).Inv [ir] (mns (mns (more (pls (pls held il) ir) i) il) ir)) ∧ ((A.made i tl x).gone il).Idx ir := by
  have hi := (h.ok.free i).1 (by rw [hf]; simp)
  have h1 := h.made (x := x) hf (by rw [hx]; exact hl) (by rw [hx]; exact hr)
  have ha1 : (A.made i tl x).Agg := by rw [hx]; exact ha.made h hf hl hr (by rw [← hx]; exact hs)
  have ex : x.left = il ∧ x.right = ir := by rw [hx]; exact ⟨rfl, rfl⟩
  have hne : ∀ j, A.σ.on j = true → j ≠ i := fun j hj e => by subst e; rw [hi.2.2] at hj; cases hj
  have pl := fun j => pls_at (pls held il) ir j
  have pl2 := fun j => pls_at held il j
  have c1 : il ≠ 0 → 0 < more (pls (pls held il) ir) i il ∧ 2 ≤ (A.made i tl x).cnt il := fun h0 => by
    have hon := hl.resolve_left h0
    refine ⟨?_, ?_⟩
    · unfold more
      rw [if_neg (hne il hon), pl, pl2, if_pos ⟨h0, rfl⟩]; omega
    · rw [made_cnt h hf hon, ex.1]
      have := h.pos il hon
      have e : hit il il = 1 := if_pos rfl
      rw [e]; omega
  obtain ⟨g1, g2, g3, g4, g5, g6, g7⟩ := h1.shared c1 ha1
  have c2 : ir ≠ 0 → 0 < mns (more (pls (pls held il) ir) i) il ir ∧ 2 ≤ ((A.made i tl x).gone il).cnt ir := fun h0 => by
    have hon := hr.resolve_left h0
    refine ⟨?_, ?_⟩
    · rw [mns_at]
      unfold more
      rw [if_neg (hne ir hon), pl, pl2]
      rw [if_pos (show ir ≠ 0 ∧ ir = ir from ⟨h0, rfl⟩)]
      split <;> omega
    · rw [g7, made_cnt h hf hon, ex.1, ex.2]
      have := h.pos ir hon
      have e : hit ir ir = 1 := if_pos rfl
      rw [e]
      unfold hit
      by_cases e2 : il = ir
      · rw [if_pos e2, if_pos ⟨by omega, e2.symm⟩]; omega
      · rw [if_neg e2, if_neg (fun h => e2 h.2.symm)]; omega
  obtain ⟨k1, k2, k3, k4, k5, k6, k7⟩ := g3.shared c2 g4
  have eo : A.over i tl x = ((A.made i tl x).gone il).gone ir := by unfold Ar.over; rw [ex.1, ex.2]
  have hheld : mns (mns (more (pls (pls held il) ir) i) il) ir = pls held i := by
    funext j
    have hj1 := mns_at (mns (more (pls (pls held il) ir) i) il) ir j
    have hj2 := mns_at (more (pls (pls held il) ir) i) il j
    rw [hj1, hj2, more_pls (by omega), pls_at, pls_at, pls_at, pls_at]
    omega
  have hkm := Ar.Kept.made (i := i) (t := tl) x h hf
  rw [eo]
  refine ⟨hheld ▸ k3, k4, (hkm.trans g5).trans k5, ?_, ?_, by omega, g1, g2, k1, k2⟩
  · rw [k6, g6]; rfl
  · have hon : (A.made i tl x).σ.on i = true := take_same A.σ i tl
    rw [k5.nd i (g5.on i hon), g5.nd i hon]
    show (if i = i then x else _) = x
    rw [if_pos rfl]
theorem Planted.node {A A1 A2 : Ar} {held : Nat → Nat} {l1 l2 : List En} {e : En} {il ir i : Nat} {tl tr : Tr} {fr : List Nat} {x : Nd} (h1 : Planted A held l1 A1 il tl) (h2 : Planted A1 (pls held il) l2 A2 ir tr) (hf : A2.σ.free = i :: fr)
    (hx : x = A2.node e.key e.val il ir) (hb : Proofs.Ytehaffcjoafkcaa.bal (l1.length : Int) (l2.length : Int) = true) (hs : (l1.length + l2.length + 1 : Int) ≤ 2147483647) : Planted A held (l1 ++ e :: l2) (A2.over i fr x) i (.node i tl tr) ∧ x.size ≤ 2147483647 := by
  have hsl := h1.sub.kept h2.kept
  have hszl : A2.sz il = (l1.length : Int) := by rw [hsl.size h2.agg, h1.size]
  have hszr := h2.sz
  have hsz : x.size ≤ 2147483647 := by
    rw [hx]
    show 1 + A2.sz il + A2.sz ir ≤ _
    rw [hszl, hszr]; omega
  obtain ⟨o1, o2, o3, o4, o5, o6, _⟩ := over_ok hx h2.inv h2.agg hf hsl.idx h2.sub.idx hsz
  have oi : (A2.over i fr x).σ.on i = true := by rw [o4]; exact take_same A2.σ i fr
  have ex : x.left = il ∧ x.right = ir ∧ x.key = e.key ∧ x.val = e.val := by rw [hx]; exact ⟨rfl, rfl, rfl, rfl⟩
  refine ⟨⟨(h1.kept.trans h2.kept).trans o3, o1, o2, ?_, ?_, ?_, ?_⟩, hsz⟩
  · exact .node i tl tr o6 oi (by rw [o5, ex.1]; exact hsl.kept o3) (by rw [o5, ex.2.1]; exact h2.sub.kept o3)
  · rw [Tr.ents_node, o5, Tr.ents_kept o3 hsl, Tr.ents_kept o3 h2.sub, Tr.ents_kept h2.kept h1.sub, h1.ents, h2.ents, ex.2.2.1, ex.2.2.2]
  · unfold Tr.bal
    rw [h1.size, h2.size, hb, h1.bal, h2.bal]; rfl
  · have f1 := h1.free
    have f2 := h2.free
    have f3 : (A2.over i fr x).σ.free = fr := by rw [o4]; rfl
    rw [f3]
    rw [hf] at f2
    simp only [List.length_append, List.length_cons] at f2 ⊢
    omega
end Go.Proofs.Ytehaffcjoafkcaa
set_option linter.unusedVariables false
namespace Go.Proofs.Ytehaffcjoafkcaa
def Ar.Wf (A : Ar) : Prop := ∀ i, A.σ.on i = true → i64R (A.nd i).key ∧ i64R (A.nd i).val
theorem Ar.Wf.made {A : Ar} {i : Nat} {t : List Nat} {x : Nd} (h : A.Wf) (hx : i64R x.key ∧ i64R x.val) : (A.made i t x).Wf := fun j hj => by
  by_cases e : j = i
  · have e1 : (A.made i t x).nd j = x := if_pos e
    rw [e1]; exact hx
  · have e1 : (A.made i t x).nd j = A.nd j := if_neg e
    rw [e1]; exact h j (take_is hj e)
theorem run_on : ∀ (f : Nat) (A : Ar) (s : List Nat) (j : Nat), (Ar.run f A s).1.σ.on j = true → A.σ.on j = true ∧ (Ar.run f A s).1.nd j = A.nd j
  | 0, A, s, j, h => ⟨h, rfl⟩
  | f + 1, A, [], j, h => ⟨h, rfl⟩
  | f + 1, A, i :: t, j, h => by
    unfold Ar.run at h ⊢
    by_cases h0 : i = 0
    · rw [if_pos h0] at h ⊢; exact run_on f A t j h
    · rw [if_neg h0] at h ⊢
      by_cases h1 : A.cnt i = 1
      · rw [if_pos h1] at h ⊢
        obtain ⟨h2, h3⟩ := run_on f (A.drop i) _ j h
        obtain ⟨h4, h5⟩ := put_is h2
        exact ⟨h5, h3.trans (if_neg h4)⟩
      · rw [if_neg h1] at h ⊢
        exact run_on f (A.dec i) t j h
theorem Ar.Wf.gone {A : Ar} (h : A.Wf) (i : Nat) : (A.gone i).Wf := fun j hj => by
  obtain ⟨h1, h2⟩ := run_on A.fuel A [i] j hj
  have e : (A.gone i).nd j = A.nd j := h2
  rw [e]; exact h j h1
end Go.Proofs.Ytehaffcjoafkcaa
set_option linter.unusedVariables false
set_option linter.unusedSimpArgs false
namespace Go.Proofs.Ytehaffcjoafkcaa
open Go.RowKit
/-- B is A with n new nodes and one reference more, to j; what was there stays -/
structure Turned (A : Ar) (held : Nat → Nat) (B : Ar) (j n : Nat) : Prop where
  kept : A.Kept B
  gen : ∀ i, A.σ.on i = true → B.σ.gen i = A.σ.gen i
  inv : B.Inv [] (more held j)
  agg : B.Agg
  wf : A.Wf → B.Wf
  free : B.σ.free.length + n = A.σ.free.length
def NewIn (A B : Ar) (j : Nat) : Prop := B.σ.on j = true ∧ A.σ.on j = false
def isNd (x e : Nd) (l r : Nat) : Prop := x.key = e.key ∧ x.val = e.val ∧ x.left = l ∧ x.right = r
/-- the nodes that a rotation of i moves have numbers of 64 bits -/
def WfNear (A : Ar) (i : Nat) : Prop := ∀ x, (x = i ∨ x = (A.nd i).left ∨ x = (A.nd i).right ∨ x = (A.nd (A.nd i).left).right ∨ x = (A.nd (A.nd i).right).left) → A.σ.on x = true → i64R (A.nd x).key ∧ i64R (A.nd x).val
/-- does the root have the form that the rotation asks -/
def rform (A : Ar) (k i : Nat) : Bool := A.σ.on i && match k with
  | 0 => (A.nd i).right != 0
  | 1 => (A.nd i).left != 0
  | 2 => (A.nd i).right != 0 && (A.nd (A.nd i).right).left != 0
  | _ => (A.nd i).left != 0 && (A.nd (A.nd i).left).right != 0
def rneed (k : Nat) : Nat := if k < 2 then 2 else 3
def dnodes (A B : Ar) (j : Nat) (p q r : Nd) : Prop :=
  ∃ y z, y ≠ z ∧ NewIn A B j ∧ NewIn A B y ∧ NewIn A B z ∧ isNd (B.nd j) q y z ∧ isNd (B.nd y) p p.left q.left ∧ isNd (B.nd z) r q.right r.right
/-- the nodes of the result -/
def RNodes (A B : Ar) (k i j : Nat) : Prop := match k with
  | 0 => ∃ z, NewIn A B j ∧ NewIn A B z ∧ isNd (B.nd j) (A.nd (A.nd i).right) z (A.nd (A.nd i).right).right ∧ isNd (B.nd z) (A.nd i) (A.nd i).left (A.nd (A.nd i).right).left
  | 1 => ∃ z, NewIn A B j ∧ NewIn A B z ∧ isNd (B.nd j) (A.nd (A.nd i).left) (A.nd (A.nd i).left).left z ∧ isNd (B.nd z) (A.nd i) (A.nd (A.nd i).left).right (A.nd i).right
  | 2 => dnodes A B j (A.nd i) (A.nd (A.nd (A.nd i).right).left) (A.nd (A.nd i).right)
  | _ => dnodes A B j (A.nd (A.nd i).left) (A.nd (A.nd (A.nd i).left).right) (A.nd i)
/-- what a rotation answers, where T says what stands at an arena -/
def RotEnd (A : Ar) (held : Nat → Nat) (k i : Nat) (T : Ar → (Nat → Nat) → Prop) (e : Ending) : Prop :=
  (rform A k i = false ∧ e = .returned (.tuple #[.int .u32 0, .int .i64 1]) ∧ T A held) ∨
  (rform A k i = true ∧ A.σ.free.length < rneed k ∧ e = .returned (.tuple #[.int .u32 0, .int .i64 2]) ∧ T A held) ∨
  (rform A k i = true ∧ rneed k ≤ A.σ.free.length ∧ ∃ B j, Turned A held B j (rneed k) ∧ RNodes A B k i j ∧ e = .returned (.tuple #[.int .u32 (j : Int), .int .i64 0]) ∧ T B (more held j))
def RotRes (I : AImpl) (p : Value) (A : Ar) (rd : Int) (F : Nat → Prop) (held : Nat → Nat) (k i : Nat) (w : World) (e : Ending) (w' : World) : Prop :=
  ∃ F' rd', Alters F F' w w' ∧ rd ≤ rd' ∧ rd' ≤ rd + 4 ∧ RotEnd A held k i (fun B _ => I.Is w' p B rd' F') e
def RotSpec (I : AImpl) (f : FuncId) (k : Nat) : Prop := ∀ {p : Value} {A : Ar} {rd : Int} {F : Nat → Prop} {held : Nat → Nat} {i : Nat} (w : World),
  I.Is w p A rd F → A.Inv [] held → A.Agg → WfNear A i → (∀ j, held j ≤ 1048500) → 0 ≤ rd → rd ≤ 2199023255552 → i < 4294967296 →
  Calls Try.prog f #[p, .int .u32 (i : Int)] w (RotRes I p A rd F held k i w)
structure RotImpl (I : AImpl) : Prop where
  left : RotSpec I 81 0
  right : RotSpec I 83 1
  dleft : RotSpec I 82 2
  dright : RotSpec I 84 3
end Go.Proofs.Ytehaffcjoafkcaa
set_option linter.unusedVariables false
namespace Go.Proofs.Ytehaffcjoafkcaa
/-- B is A with a new node x at i, to which one reference more is held -/
structure Mk (A : Ar) (held : Nat → Nat) (i : Nat) (x : Nd) (B : Ar) : Prop where
  kept : A.Kept B
  gen : ∀ j, A.σ.on j = true → B.σ.gen j = A.σ.gen j
  inv : B.Inv [] (more held i)
  agg : B.Agg
  wf : A.Wf → B.Wf
  free : B.σ.free.length + 1 = A.σ.free.length
  nd : B.nd i = x
  new : NewIn A B i
theorem kept_sz {A B : Ar} (hk : A.Kept B) {i : Nat} (hi : A.Idx i) : B.sz i = A.sz i := by
  unfold Ar.sz
  by_cases h0 : i = 0
  · rw [if_pos h0, if_pos h0]
  · rw [if_neg h0, if_neg h0, hk.nd i (hi.resolve_left h0)]
theorem mk {A : Ar} {held : Nat → Nat} {i : Nat} {t : List Nat} {key val : Int} {l r : Nat} (hv : A.Inv [] held) (ha : A.Agg) (hf : A.σ.free = i :: t) (hk : i64R key) (hx : i64R val) (hl : A.Idx l) (hr : A.Idx r) (hs : (A.node key val l r).size ≤ 2147483647) :
    Mk A held i (A.node key val l r) (A.made i t (A.node key val l r)) := by
  have hi := (hv.ok.free i).1 (by rw [hf]; simp)
  have hne : ∀ j, A.σ.on j = true → j ≠ i := fun j hj e => by subst e; rw [hi.2.2] at hj; cases hj
  refine ⟨Ar.Kept.made _ hv hf, fun j hj => ?_, hv.made hf hl hr, ha.made hv hf hl hr hs, fun hw => hw.made ⟨hk, hx⟩, ?_, if_pos rfl, take_same _ _ _, hi.2.2⟩
  · show (A.σ.take i t).gen j = A.σ.gen j
    unfold St.take
    simp [hne j hj]
  · show (A.σ.take i t).free.length + 1 = _
    rw [hf]
    rfl
/-- a reference that is held to a node which another node has, too, is given back -/
theorem give {A : Ar} {held : Nat → Nat} (hv : A.Inv [] held) (ha : A.Agg) {i : Nat} (h1 : i ≠ 0 → 0 < held i ∧ 2 ≤ A.cnt i) :
    (A.Idx i → A.Inv [i] (mns held i)) ∧ A.Idx i ∧ (A.gone i).Inv [] (mns held i) ∧ (A.gone i).Agg ∧ (A.Wf → (A.gone i).Wf) ∧ A.Kept (A.gone i) ∧ (A.gone i).σ = A.σ ∧ (∀ j, (A.gone i).cnt j = A.cnt j - (if i ≠ 0 ∧ j = i then 1 else 0)) := by
  obtain ⟨g1, g2, g3, g4, g5, g6, g7⟩ := hv.shared h1 ha
  exact ⟨g1, g2, g3, g4, fun hw => hw.gone i, g5, g6, g7⟩
theorem mns_more2 {held : Nat → Nat} {a b : Nat} (ha : a ≠ 0) (h : a ≠ b) : mns (more (more held a) b) a = more held b := by
  funext j
  rw [mns_at]
  unfold more
  by_cases e1 : j = b
  · subst e1
    rw [if_pos rfl, if_pos rfl, if_neg (Ne.symm h), if_neg (fun q => h q.2.symm)]
    omega
  · rw [if_neg e1, if_neg e1]
    by_cases e2 : j = a
    · subst e2; rw [if_pos rfl, if_pos ⟨ha, rfl⟩]; omega
    · rw [if_neg e2, if_neg (fun q => e2 q.2)]; omega
/-- two nodes, the second over the first; then the first one's reference is given back -/
theorem two_nodes {A A1 A2 : Ar} {held : Nat → Nat} {i1 i2 : Nat} {x1 x2 : Nd} (h1 : Mk A held i1 x1 A1) (h2 : Mk A1 (more held i1) i2 x2 A2) (hc : 2 ≤ A2.cnt i1) :
    (A2.Idx i1 → A2.Inv [i1] (mns (more (more held i1) i2) i1)) ∧ A2.Idx i1 ∧ Turned A held (A2.gone i1) i2 2 ∧ NewIn A (A2.gone i1) i1 ∧ NewIn A (A2.gone i1) i2 ∧ (A2.gone i1).nd i1 = x1 ∧ (A2.gone i1).nd i2 = x2 := by
  have hi0 : i1 ≠ 0 := by have := h1.inv.ok.on i1 h1.new.1; omega
  have hne : i1 ≠ i2 := fun e => by have h := h2.new.2; rw [← e, h1.new.1] at h; cases h
  have hh : 0 < more (more held i1) i2 i1 := by unfold more; rw [if_neg hne, if_pos rfl]; omega
  obtain ⟨g1, g2, g3, g4, g5, g6, g7, g8⟩ := give h2.inv h2.agg (i := i1) (fun _ => ⟨hh, hc⟩)
  rw [mns_more2 hi0 hne] at g3
  have hk := (h1.kept.trans h2.kept).trans g6
  have n1 : (A2.gone i1).σ.on i1 = true := by rw [g7]; exact h2.kept.on i1 h1.new.1
  have n2 : (A2.gone i1).σ.on i2 = true := by rw [g7]; exact h2.new.1
  have off2 : A.σ.on i2 = false := by
    cases ho : A.σ.on i2
    · rfl
    · have := h1.kept.on i2 ho; rw [h2.new.2] at this; cases this
  refine ⟨g1, g2, ⟨hk, fun j hj => ?_, g3, g4, fun q => g5 (h2.wf (h1.wf q)), ?_⟩, ⟨n1, h1.new.2⟩, ⟨n2, off2⟩, ?_, ?_⟩
  · rw [g7, h2.gen j (h1.kept.on j hj), h1.gen j hj]
  · rw [g7]
    have f1 := h1.free
    have f2 := h2.free
    omega
  · rw [g6.nd i1 (h2.kept.on i1 h1.new.1), h2.kept.nd i1 h1.new.1, h1.nd]
  · rw [g6.nd i2 h2.new.1, h2.nd]
theorem Mk.off {A B : Ar} {held : Nat → Nat} {i : Nat} {x : Nd} {A0 : Ar} (h : Mk A held i x B) (hk : A0.Kept A) : A0.σ.on i = false := by
  cases ho : A0.σ.on i
  · rfl
  · have := hk.on i ho; rw [h.new.2] at this; cases this
end Go.Proofs.Ytehaffcjoafkcaa
set_option linter.unusedVariables false
set_option linter.unusedSimpArgs false
namespace Go.Proofs.Ytehaffcjoafkcaa
open Go.RowKit
set_option maxRecDepth 100000 in
theorem refBalanced_any (l r : Int) (w : World) (hl0 : -9223372036854775808 ≤ l) (hl1 : l ≤ 9223372036854775807) (hr0 : -9223372036854775808 ≤ r) (hr1 : r ≤ 9223372036854775807) :
    Calls Try.prog 54 #[.int .i64 l, .int .i64 r] w fun e w' => e = .returned (.bool (bal l r)) ∧ w' = w := by
  by_cases h : 0 ≤ l ∧ l ≤ 2147483647 ∧ 0 ≤ r ∧ r ≤ 2147483647
  · obtain ⟨h1, h2, h3, h4⟩ := h
    have HB : Hid (bal l r = (decide (l + 1 ≤ 3 * (r + 1)) && decide (r + 1 ≤ 3 * (l + 1)))) := by
      unfold bal
      rw [← Bool.decide_and]
      exact decide_eq_decide.2 ⟨fun h => ⟨h.2.2.2.2.1, h.2.2.2.2.2⟩, fun h => ⟨h1, h2, h3, h4, h.1, h.2⟩⟩
    have e1 : IntKind.i64.wrap (l + 1) = l + 1 := by rw [IntKind.wrap_i64]; omega
    have e2 : IntKind.i64.wrap (r + 1) = r + 1 := by rw [IntKind.wrap_i64]; omega
    have e3 : IntKind.i64.wrap (3 * (r + 1)) = 3 * (r + 1) := by rw [IntKind.wrap_i64]; omega
    have e4 : IntKind.i64.wrap (3 * (l + 1)) = 3 * (l + 1) := by rw [IntKind.wrap_i64]; omega
    have g1 : decide (l < 0) = false := decide_eq_false (by omega)
    have g2 : decide (2147483647 < l) = false := decide_eq_false (by omega)
    have g3 : decide (r < 0) = false := decide_eq_false (by omega)
    have g4 : decide (2147483647 < r) = false := decide_eq_false (by omega)
    rw [HB.out]
    clear HB hl0 hl1 hr0 hr1 h1 h2 h3 h4
    by_cases hc : l + 1 ≤ 3 * (r + 1)
    · have hc2 := decide_eq_true hc
      go_enter Try.func54, Try.ntmps54
      go_wp2
      go_ret
      exact ⟨by simp [hc], rfl⟩
    · have hc2 := decide_eq_false hc
      go_enter Try.func54, Try.ntmps54
      go_wp2
      go_ret
      exact ⟨by simp [hc], rfl⟩
  · have HB : bal l r = false := decide_eq_false fun h2 => h ⟨h2.1, h2.2.1, h2.2.2.1, h2.2.2.2.1⟩
    rw [HB]
    clear HB
    by_cases h1 : l < 0
    · have g1 := decide_eq_true h1
      clear h h1
      go_enter Try.func54, Try.ntmps54
      go_wp2
      go_ret
      exact ⟨rfl, rfl⟩
    · have g1 := decide_eq_false h1
      by_cases h2 : 2147483647 < l
      · have g2 := decide_eq_true h2
        clear h h1 h2
        go_enter Try.func54, Try.ntmps54
        go_wp2
        go_ret
        exact ⟨rfl, rfl⟩
      · have g2 := decide_eq_false h2
        by_cases h3 : r < 0
        · have g3 := decide_eq_true h3
          clear h h1 h2 h3
          go_enter Try.func54, Try.ntmps54
          go_wp2
          go_ret
          exact ⟨rfl, rfl⟩
        · have g3 := decide_eq_false h3
          have g4 : decide (2147483647 < r) = true := decide_eq_true (by omega)
          clear h h1 h2 h3
          go_enter Try.func54, Try.ntmps54
          go_wp2
          go_ret
          exact ⟨rfl, rfl⟩
theorem below_new7 (w : World) (o : Obj) : Below w.heap.size w (w.alloc o) := (Below.refl _ _).alloc (Nat.le_refl _) _
theorem below_chain7 {a b c : World} (h : Below a.heap.size a b) (h1 : Below b.heap.size b c) : Below a.heap.size a c := h.trans (h1.mono h.size)
end Go.Proofs.Ytehaffcjoafkcaa
set_option linter.unusedVariables false
set_option linter.unusedSimpArgs false
namespace Go.Proofs.Ytehaffcjoafkcaa
open Go.RowKit
theorem least_any (n : Nat) (w : World) (hn : n ≤ 2147483647) : Calls Try.prog 53 #[.int .i64 (n : Int)] w fun e w' => e = .returned (.int .i64 ((n / 4 : Nat) : Int)) ∧ w = w' := by
  have hm : max (0 : Int) (n : Int) = (n : Int) := by omega
  have hq : (n : Int).tdiv 4 = ((n / 4 : Nat) : Int) := by rw [Int.tdiv_eq_ediv_of_nonneg (by omega)]; omega
  have hw : wrap64 ((n : Int).tdiv 4) = ((n / 4 : Nat) : Int) := by rw [hq]; unfold wrap64; omega
  have hni : (n : Int) ≤ 2147483647 := by omega
  have hn0 : (0 : Int) ≤ (n : Int) := by omega
  have HW := Lib.hid hw
  clear hq hw
  go_enter Try.func53, Try.ntmps53
  go_wp2_with fail
  all_goals
    go_ret
    exact ⟨by first | rfl | (simp; omega), rfl⟩
theorem bal_between {lo n p : Int} (h : bal lo (n - 1 - lo) = true) (h1 : lo ≤ p) (h2 : p ≤ n - 1 - lo) (hn : n ≤ 2147483647) : bal p (n - 1 - p) = true := by
  unfold bal at h ⊢
  have := of_decide_eq_true h
  exact decide_eq_true (by omega)
set_option maxHeartbeats 2000000 in
set_option maxRecDepth 100000 in
theorem pivot_any (n : Nat) (tilt : Int) (w : World) (h1 : 1 ≤ n) (hn : n ≤ 2147483647) (ht0 : 0 ≤ tilt) (ht1 : tilt < 18446744073709551616) :
    Calls Try.prog 32 #[.int .i64 (n : Int), .int .u64 tilt] w fun e w' => (∃ p : Nat, e = .returned (.int .i64 (p : Int)) ∧ p < n ∧ bal (p : Int) ((n : Int) - 1 - (p : Int)) = true) ∧ w = w' := by
  have hni : (n : Int) ≤ 2147483647 := by omega
  have hn1 : (1 : Int) ≤ (n : Int) := by omega
  have HN : Hid (1 ≤ n ∧ n ≤ 2147483647) := ⟨h1, hn⟩
  have HT : Hid (0 ≤ tilt ∧ tilt < 18446744073709551616) := ⟨ht0, ht1⟩
  have hw1 : IntKind.i64.wrap ((n : Int) - 1) = (n : Int) - 1 := by rw [IntKind.wrap_i64]; omega
  have HW1 := Lib.hid hw1
  clear h1 hn ht0 ht1 hw1
  go_enter Try.func32, Try.ntmps32
  go_wp2_with fail
  refine (least_any n w HN.out.2).mono ?_
  rintro e w7 ⟨rfl, rfl⟩
  go_wp2_with fail
  go_loopw [5] (fun x wr => ∃ lo : Nat, x = .int .i64 (lo : Int) ∧ 2 * lo ≤ n - 1 ∧ w = wr) (fun x _ => (intOf x).toNat)
  case atStart => exact ⟨n / 4, rfl, by have := HN.out; omega, rfl⟩
  case round =>
    obtain ⟨lo, rfl, hlo, rfl⟩ := hrel
    have HLO := Lib.hid hlo
    by_cases h0 : lo = 0
    · have hlt1 : decide ((0 : Int) < (lo : Int)) = false := decide_eq_false (by omega)
      have hlt0 : ¬ (0 : Int) < (lo : Int) := by omega
      clear hlo h0
      go_wp2_with fail
      go_loopw [5] (fun x wr => ∃ lo : Nat, x = .int .i64 (lo : Int) ∧ 2 * lo ≤ n - 1 ∧ w = wr) (fun x _ => n - (intOf x).toNat)
      case atStart => exact ⟨lo, rfl, HLO.out, rfl⟩
      case round =>
        clear HLO
        obtain ⟨lo, rfl, hlo, rfl⟩ := hrel
        have HLO := Lib.hid hlo
        have hw1 := HW1.out
        by_cases hl : lo < n - 1
        · obtain ⟨li, hli⟩ : ∃ Y : Int, (lo : Int) = Y := ⟨_, rfl⟩
          have HLI := Lib.hid hli
          rw [hli]
          have hw2 : IntKind.i64.wrap ((n : Int) - 1 - li) = (n : Int) - 1 - li := by rw [IntKind.wrap_i64]; omega
          have hlt1 : decide (li < (n : Int) - 1) = true := decide_eq_true (by omega)
          have HL2 : Hid (lo < n - 1) := hl
          clear hli hl hlo
          go_wp2_with fail
          refine (refBalanced_any li ((n : Int) - 1 - li) w (by have := HLI.out; omega) (by have := HLI.out; have := HLO.out; have := HN.out; omega) (by have := HLI.out; have := HLO.out; have := HN.out; omega) (by have := HLI.out; have := HLO.out; have := HN.out; omega)).mono ?_
          rintro e w8 ⟨rfl, h8⟩
          have h9 := h8.symm
          clear h8
          subst h9
          cases hb : bal li ((n : Int) - 1 - li)
          · have hw5 : IntKind.i64.wrap (li + 1) = li + 1 := by have := HLI.out; have := HLO.out; have := HN.out; rw [IntKind.wrap_i64]; omega
            have HST : Hid (2 * (lo + 1) ≤ n - 1) := by
              show 2 * (lo + 1) ≤ n - 1
              have h3 := HLI.out; have h4 := HLO.out; have h5 := HN.out
              unfold bal at hb
              have h6 := of_decide_eq_false hb
              omega
            clear hb
            go_wp2_with fail
            exact ⟨⟨lo + 1, by have := HLI.out; congr 1; omega, HST.out, by first | rfl | trivial⟩, by have := HLI.out; have := HL2.out; simp [intOf]; omega⟩
          · have HBL : Hid (bal (lo : Int) ((n : Int) - 1 - (lo : Int)) = true) := by
              show bal (lo : Int) ((n : Int) - 1 - (lo : Int)) = true
              rw [HLI.out]; exact hb
            rw [← HLI.out] at hw2 hlt1 ⊢
            clear hb hw2 hlt1 HLI HL2
            obtain ⟨li, hli⟩ : ∃ Y : Int, (lo : Int) = Y := ⟨_, rfl⟩
            rw [hli] at HBL ⊢
            try (rw [hli] at hlt1 hlt0)
            have HLI := Lib.hid hli
            have hh1 : 2 * li ≤ (n : Int) - 1 := by have := HLO.out; have := HN.out; omega
            have hl0 : 0 ≤ li := by omega
            have hw2 : IntKind.i64.wrap ((n : Int) - 1 - li) = (n : Int) - 1 - li := by rw [IntKind.wrap_i64]; omega
            have hw3 : IntKind.i64.wrap ((n : Int) - 1 - li - li) = (n : Int) - 1 - li - li := by rw [IntKind.wrap_i64]; omega
            have hw4 : IntKind.i64.wrap ((n : Int) - 1 - li - li + 1) = (n : Int) - 1 - li - li + 1 := by rw [IntKind.wrap_i64]; omega
            have hw5 : IntKind.u64.wrap ((n : Int) - 1 - li - li + 1) = (n : Int) - 1 - li - li + 1 := by rw [IntKind.wrap_u64]; omega
            have hlt2 : decide ((n : Int) - 1 - li < li) = false := decide_eq_false (by omega)
            have hlt3 : ¬ (n : Int) - 1 - li < li := by omega
            have hw1 := HW1.out
            have k1 := Int.emod_nonneg tilt (b := (n : Int) - 1 - li - li + 1) (by omega)
            have k2 := Int.emod_lt_of_pos tilt (b := (n : Int) - 1 - li - li + 1) (by omega)
            have hmt : tilt.tmod ((n : Int) - 1 - li - li + 1) = tilt % ((n : Int) - 1 - li - li + 1) := Int.tmod_eq_emod_of_nonneg HT.out.1
            have hdne : ¬ (n : Int) - 1 - li - li + 1 = 0 := by omega
            have hd0 : (0 : Int) < (n : Int) - 1 - li - li + 1 := by omega
            generalize hD : (n : Int) - 1 - li - li + 1 = D at hw4 hw5 k1 k2 hmt hdne hd0
            have HD := Lib.hid hD
            have HK2 := Lib.hid (And.intro k1 k2)
            have HMT := Lib.hid hmt
            have hw6 : IntKind.i64.wrap (tilt.tmod D) = tilt % D := by rw [hmt, IntKind.wrap_i64]; omega
            have hw7 : IntKind.i64.wrap (li + tilt % D) = li + tilt % D := by rw [IntKind.wrap_i64]; omega
            have hw8 : IntKind.i64.wrap (tilt % D) = tilt % D := by rw [IntKind.wrap_i64]; omega
            have hw9 : IntKind.u64.wrap (tilt % D) = tilt % D := by rw [IntKind.wrap_u64]; omega
            have hh2 : li < 4294967296 := by omega
            clear hli hh1 k1 k2 hD
            go_wp2_with fail
            go_ret
            refine ⟨⟨(li + tilt % D).toNat, ?_, ?_, ?_⟩, rfl⟩
            · have h3 := HK2.out
              rw [show (((li + tilt % D).toNat : Nat) : Int) = li + tilt % D by omega]
              refine congrArg (fun x => Ending.returned (Value.int .i64 x)) ?_
              have h4 := HD.out; have h5 := HLI.out; have h6 := HN.out
              rw [HD.out, HMT.out]
              unfold wrap64
              omega
            · have h3 := HK2.out; have h4 := HD.out; have h5 := HLI.out; omega
            · have h3 := HK2.out; have h4 := HD.out; have h5 := HLI.out; have h6 := HN.out
              rw [show (((li + tilt % D).toNat : Nat) : Int) = li + tilt % D by omega]
              exact bal_between HBL.out (by omega) (by omega) (by omega)
        · have HBL : Hid (bal (lo : Int) ((n : Int) - 1 - (lo : Int)) = true) := by
            show bal (lo : Int) ((n : Int) - 1 - (lo : Int)) = true
            have h3 := HN.out
            exact decide_eq_true (by omega)
          have hlt1 : decide ((lo : Int) < (n : Int) - 1) = false := decide_eq_false (by omega)
          have hlt0 : ¬ (lo : Int) < (n : Int) - 1 := by omega
          clear hl hlo
          obtain ⟨li, hli⟩ : ∃ Y : Int, (lo : Int) = Y := ⟨_, rfl⟩
          rw [hli] at HBL ⊢
          try (rw [hli] at hlt1 hlt0)
          have HLI := Lib.hid hli
          have hh1 : 2 * li ≤ (n : Int) - 1 := by have := HLO.out; have := HN.out; omega
          have hl0 : 0 ≤ li := by omega
          have hw2 : IntKind.i64.wrap ((n : Int) - 1 - li) = (n : Int) - 1 - li := by rw [IntKind.wrap_i64]; omega
          have hw3 : IntKind.i64.wrap ((n : Int) - 1 - li - li) = (n : Int) - 1 - li - li := by rw [IntKind.wrap_i64]; omega
          have hw4 : IntKind.i64.wrap ((n : Int) - 1 - li - li + 1) = (n : Int) - 1 - li - li + 1 := by rw [IntKind.wrap_i64]; omega
          have hw5 : IntKind.u64.wrap ((n : Int) - 1 - li - li + 1) = (n : Int) - 1 - li - li + 1 := by rw [IntKind.wrap_u64]; omega
          have hlt2 : decide ((n : Int) - 1 - li < li) = false := decide_eq_false (by omega)
          have hlt3 : ¬ (n : Int) - 1 - li < li := by omega
          have hw1 := HW1.out
          have k1 := Int.emod_nonneg tilt (b := (n : Int) - 1 - li - li + 1) (by omega)
          have k2 := Int.emod_lt_of_pos tilt (b := (n : Int) - 1 - li - li + 1) (by omega)
          have hmt : tilt.tmod ((n : Int) - 1 - li - li + 1) = tilt % ((n : Int) - 1 - li - li + 1) := Int.tmod_eq_emod_of_nonneg HT.out.1
          have hdne : ¬ (n : Int) - 1 - li - li + 1 = 0 := by omega
          have hd0 : (0 : Int) < (n : Int) - 1 - li - li + 1 := by omega
          generalize hD : (n : Int) - 1 - li - li + 1 = D at hw4 hw5 k1 k2 hmt hdne hd0
          have HD := Lib.hid hD
          have HK2 := Lib.hid (And.intro k1 k2)
          have HMT := Lib.hid hmt
          have hw6 : IntKind.i64.wrap (tilt.tmod D) = tilt % D := by rw [hmt, IntKind.wrap_i64]; omega
          have hw7 : IntKind.i64.wrap (li + tilt % D) = li + tilt % D := by rw [IntKind.wrap_i64]; omega
          have hw8 : IntKind.i64.wrap (tilt % D) = tilt % D := by rw [IntKind.wrap_i64]; omega
          have hw9 : IntKind.u64.wrap (tilt % D) = tilt % D := by rw [IntKind.wrap_u64]; omega
          have hh2 : li < 4294967296 := by omega
          clear hli hh1 k1 k2 hD
          go_wp2_with fail
          go_ret
          refine ⟨⟨(li + tilt % D).toNat, ?_, ?_, ?_⟩, rfl⟩
          · have h3 := HK2.out
            rw [show (((li + tilt % D).toNat : Nat) : Int) = li + tilt % D by omega]
            refine congrArg (fun x => Ending.returned (Value.int .i64 x)) ?_
            have h4 := HD.out; have h5 := HLI.out; have h6 := HN.out
            rw [HD.out, HMT.out]
            unfold wrap64
            omega
          · have h3 := HK2.out; have h4 := HD.out; have h5 := HLI.out; omega
          · have h3 := HK2.out; have h4 := HD.out; have h5 := HLI.out; have h6 := HN.out
            rw [show (((li + tilt % D).toNat : Nat) : Int) = li + tilt % D by omega]
            exact bal_between HBL.out (by omega) (by omega) (by omega)
    · obtain ⟨li, hli⟩ : ∃ Y : Int, (lo : Int) = Y := ⟨_, rfl⟩
      have HLI := Lib.hid hli
      rw [hli]
      have hw2 : IntKind.i64.wrap (li - 1) = li - 1 := by have := HN.out; rw [IntKind.wrap_i64]; omega
      have hw3 : IntKind.i64.wrap ((n : Int) - li) = (n : Int) - li := by have := HN.out; rw [IntKind.wrap_i64]; omega
      have hlt1 : decide ((0 : Int) < li) = true := decide_eq_true (by omega)
      have HL0 : Hid (lo ≠ 0) := h0
      clear hli hlo h0
      go_wp2_with fail
      refine (refBalanced_any (li - 1) ((n : Int) - li) w (by have := HLI.out; omega) (by have := HLI.out; have := HLO.out; have := HN.out; omega) (by have := HLI.out; have := HLO.out; have := HN.out; omega) (by have := HLI.out; have := HLO.out; have := HN.out; omega)).mono ?_
      rintro e w8 ⟨rfl, h8⟩
      have h9 := h8.symm
      clear h8
      subst h9
      cases hb : bal (li - 1) ((n : Int) - li)
      · clear hb hw2 hw3 hlt1
        rw [← HLI.out]
        clear HLI
        go_wp2_with fail
        go_loopw [5] (fun x wr => ∃ lo : Nat, x = .int .i64 (lo : Int) ∧ 2 * lo ≤ n - 1 ∧ w = wr) (fun x _ => n - (intOf x).toNat)
        case atStart => exact ⟨lo, rfl, HLO.out, rfl⟩
        case round =>
          clear HLO
          obtain ⟨lo, rfl, hlo, rfl⟩ := hrel
          have HLO := Lib.hid hlo
          have hw1 := HW1.out
          by_cases hl : lo < n - 1
          · obtain ⟨li, hli⟩ : ∃ Y : Int, (lo : Int) = Y := ⟨_, rfl⟩
            have HLI := Lib.hid hli
            rw [hli]
            have hw2 : IntKind.i64.wrap ((n : Int) - 1 - li) = (n : Int) - 1 - li := by rw [IntKind.wrap_i64]; omega
            have hlt1 : decide (li < (n : Int) - 1) = true := decide_eq_true (by omega)
            have HL2 : Hid (lo < n - 1) := hl
            clear hli hl hlo
            go_wp2_with fail
            refine (refBalanced_any li ((n : Int) - 1 - li) w (by have := HLI.out; omega) (by have := HLI.out; have := HLO.out; have := HN.out; omega) (by have := HLI.out; have := HLO.out; have := HN.out; omega) (by have := HLI.out; have := HLO.out; have := HN.out; omega)).mono ?_
            rintro e w8 ⟨rfl, h8⟩
            have h9 := h8.symm
            clear h8
            subst h9
            cases hb : bal li ((n : Int) - 1 - li)
            · have hw5 : IntKind.i64.wrap (li + 1) = li + 1 := by have := HLI.out; have := HLO.out; have := HN.out; rw [IntKind.wrap_i64]; omega
              have HST : Hid (2 * (lo + 1) ≤ n - 1) := by
                show 2 * (lo + 1) ≤ n - 1
                have h3 := HLI.out; have h4 := HLO.out; have h5 := HN.out
                unfold bal at hb
                have h6 := of_decide_eq_false hb
                omega
              clear hb
              go_wp2_with fail
              exact ⟨⟨lo + 1, by have := HLI.out; congr 1; omega, HST.out, by first | rfl | trivial⟩, by have := HLI.out; have := HL2.out; simp [intOf]; omega⟩
            · have HBL : Hid (bal (lo : Int) ((n : Int) - 1 - (lo : Int)) = true) := by
                show bal (lo : Int) ((n : Int) - 1 - (lo : Int)) = true
                rw [HLI.out]; exact hb
              rw [← HLI.out] at hw2 hlt1 ⊢
              clear hb hw2 hlt1 HLI HL2
              obtain ⟨li, hli⟩ : ∃ Y : Int, (lo : Int) = Y := ⟨_, rfl⟩
              rw [hli] at HBL ⊢
              try (rw [hli] at hlt1 hlt0)
              have HLI := Lib.hid hli
              have hh1 : 2 * li ≤ (n : Int) - 1 := by have := HLO.out; have := HN.out; omega
              have hl0 : 0 ≤ li := by omega
              have hw2 : IntKind.i64.wrap ((n : Int) - 1 - li) = (n : Int) - 1 - li := by rw [IntKind.wrap_i64]; omega
              have hw3 : IntKind.i64.wrap ((n : Int) - 1 - li - li) = (n : Int) - 1 - li - li := by rw [IntKind.wrap_i64]; omega
              have hw4 : IntKind.i64.wrap ((n : Int) - 1 - li - li + 1) = (n : Int) - 1 - li - li + 1 := by rw [IntKind.wrap_i64]; omega
              have hw5 : IntKind.u64.wrap ((n : Int) - 1 - li - li + 1) = (n : Int) - 1 - li - li + 1 := by rw [IntKind.wrap_u64]; omega
              have hlt2 : decide ((n : Int) - 1 - li < li) = false := decide_eq_false (by omega)
              have hlt3 : ¬ (n : Int) - 1 - li < li := by omega
              have hw1 := HW1.out
              have k1 := Int.emod_nonneg tilt (b := (n : Int) - 1 - li - li + 1) (by omega)
              have k2 := Int.emod_lt_of_pos tilt (b := (n : Int) - 1 - li - li + 1) (by omega)
              have hmt : tilt.tmod ((n : Int) - 1 - li - li + 1) = tilt % ((n : Int) - 1 - li - li + 1) := Int.tmod_eq_emod_of_nonneg HT.out.1
              have hdne : ¬ (n : Int) - 1 - li - li + 1 = 0 := by omega
              have hd0 : (0 : Int) < (n : Int) - 1 - li - li + 1 := by omega
              generalize hD : (n : Int) - 1 - li - li + 1 = D at hw4 hw5 k1 k2 hmt hdne hd0
              have HD := Lib.hid hD
              have HK2 := Lib.hid (And.intro k1 k2)
              have HMT := Lib.hid hmt
              have hw6 : IntKind.i64.wrap (tilt.tmod D) = tilt % D := by rw [hmt, IntKind.wrap_i64]; omega
              have hw7 : IntKind.i64.wrap (li + tilt % D) = li + tilt % D := by rw [IntKind.wrap_i64]; omega
              have hw8 : IntKind.i64.wrap (tilt % D) = tilt % D := by rw [IntKind.wrap_i64]; omega
              have hw9 : IntKind.u64.wrap (tilt % D) = tilt % D := by rw [IntKind.wrap_u64]; omega
              have hh2 : li < 4294967296 := by omega
              clear hli hh1 k1 k2 hD
              go_wp2_with fail
              go_ret
              refine ⟨⟨(li + tilt % D).toNat, ?_, ?_, ?_⟩, rfl⟩
              · have h3 := HK2.out
                rw [show (((li + tilt % D).toNat : Nat) : Int) = li + tilt % D by omega]
                refine congrArg (fun x => Ending.returned (Value.int .i64 x)) ?_
                have h4 := HD.out; have h5 := HLI.out; have h6 := HN.out
                rw [HD.out, HMT.out]
                unfold wrap64
                omega
              · have h3 := HK2.out; have h4 := HD.out; have h5 := HLI.out; omega
              · have h3 := HK2.out; have h4 := HD.out; have h5 := HLI.out; have h6 := HN.out
                rw [show (((li + tilt % D).toNat : Nat) : Int) = li + tilt % D by omega]
                exact bal_between HBL.out (by omega) (by omega) (by omega)
          · have HBL : Hid (bal (lo : Int) ((n : Int) - 1 - (lo : Int)) = true) := by
              show bal (lo : Int) ((n : Int) - 1 - (lo : Int)) = true
              have h3 := HN.out
              exact decide_eq_true (by omega)
            have hlt1 : decide ((lo : Int) < (n : Int) - 1) = false := decide_eq_false (by omega)
            have hlt0 : ¬ (lo : Int) < (n : Int) - 1 := by omega
            clear hl hlo
            obtain ⟨li, hli⟩ : ∃ Y : Int, (lo : Int) = Y := ⟨_, rfl⟩
            rw [hli] at HBL ⊢
            try (rw [hli] at hlt1 hlt0)
            have HLI := Lib.hid hli
            have hh1 : 2 * li ≤ (n : Int) - 1 := by have := HLO.out; have := HN.out; omega
            have hl0 : 0 ≤ li := by omega
            have hw2 : IntKind.i64.wrap ((n : Int) - 1 - li) = (n : Int) - 1 - li := by rw [IntKind.wrap_i64]; omega
            have hw3 : IntKind.i64.wrap ((n : Int) - 1 - li - li) = (n : Int) - 1 - li - li := by rw [IntKind.wrap_i64]; omega
            have hw4 : IntKind.i64.wrap ((n : Int) - 1 - li - li + 1) = (n : Int) - 1 - li - li + 1 := by rw [IntKind.wrap_i64]; omega
            have hw5 : IntKind.u64.wrap ((n : Int) - 1 - li - li + 1) = (n : Int) - 1 - li - li + 1 := by rw [IntKind.wrap_u64]; omega
            have hlt2 : decide ((n : Int) - 1 - li < li) = false := decide_eq_false (by omega)
            have hlt3 : ¬ (n : Int) - 1 - li < li := by omega
            have hw1 := HW1.out
            have k1 := Int.emod_nonneg tilt (b := (n : Int) - 1 - li - li + 1) (by omega)
            have k2 := Int.emod_lt_of_pos tilt (b := (n : Int) - 1 - li - li + 1) (by omega)
            have hmt : tilt.tmod ((n : Int) - 1 - li - li + 1) = tilt % ((n : Int) - 1 - li - li + 1) := Int.tmod_eq_emod_of_nonneg HT.out.1
            have hdne : ¬ (n : Int) - 1 - li - li + 1 = 0 := by omega
            have hd0 : (0 : Int) < (n : Int) - 1 - li - li + 1 := by omega
            generalize hD : (n : Int) - 1 - li - li + 1 = D at hw4 hw5 k1 k2 hmt hdne hd0
            have HD := Lib.hid hD
            have HK2 := Lib.hid (And.intro k1 k2)
            have HMT := Lib.hid hmt
            have hw6 : IntKind.i64.wrap (tilt.tmod D) = tilt % D := by rw [hmt, IntKind.wrap_i64]; omega
            have hw7 : IntKind.i64.wrap (li + tilt % D) = li + tilt % D := by rw [IntKind.wrap_i64]; omega
            have hw8 : IntKind.i64.wrap (tilt % D) = tilt % D := by rw [IntKind.wrap_i64]; omega
            have hw9 : IntKind.u64.wrap (tilt % D) = tilt % D := by rw [IntKind.wrap_u64]; omega
            have hh2 : li < 4294967296 := by omega
            clear hli hh1 k1 k2 hD
            go_wp2_with fail
            go_ret
            refine ⟨⟨(li + tilt % D).toNat, ?_, ?_, ?_⟩, rfl⟩
            · have h3 := HK2.out
              rw [show (((li + tilt % D).toNat : Nat) : Int) = li + tilt % D by omega]
              refine congrArg (fun x => Ending.returned (Value.int .i64 x)) ?_
              have h4 := HD.out; have h5 := HLI.out; have h6 := HN.out
              rw [HD.out, HMT.out]
              unfold wrap64
              omega
            · have h3 := HK2.out; have h4 := HD.out; have h5 := HLI.out; omega
            · have h3 := HK2.out; have h4 := HD.out; have h5 := HLI.out; have h6 := HN.out
              rw [show (((li + tilt % D).toNat : Nat) : Int) = li + tilt % D by omega]
              exact bal_between HBL.out (by omega) (by omega) (by omega)
      · clear hb
        go_wp2_with fail
        exact ⟨⟨lo - 1, by have := HLI.out; have := HL0.out; congr 1; omega, by have := HLO.out; omega, by first | rfl | trivial⟩, by have := HLI.out; have := HL0.out; simp [intOf]; omega⟩
end Go.Proofs.Ytehaffcjoafkcaa
set_option linter.unusedVariables false
set_option linter.unusedSimpArgs false
namespace Go.Proofs.Ytehaffcjoafkcaa
open Go.RowKit
section
variable {F F' F'' G : Nat → Prop} {w w' w'' : World} {B : Nat}
theorem EnsAt.alters {a : Option Addr} {l : List En} (h : EnsAt w a l) (ha : Alters F F' w w') (hF : ∀ b off, a = some ⟨b, off, none⟩ → ¬ F b) : EnsAt w' a l := by
  refine ⟨fun j e he => ?_, h.wf⟩
  obtain ⟨b, off, hab, hlt, h1, h2⟩ := h.cell j e he
  have hb := ha.block b hlt (hF b off hab)
  exact ⟨b, off, hab, Nat.lt_of_lt_of_le hlt ha.size, by rw [← h1]; exact World.cell?_of_block (a := ⟨b, off + j * 2, none⟩) hb, by rw [← h2]; exact World.cell?_of_block (a := ⟨b, off + j * 2 + 1, none⟩) hb⟩
theorem EnsAt.two {b off k : Nat} {key val : Int} {l : List En} (h : EnsAt w (some ⟨b, off, none⟩) l) (he : l[k]? = some ⟨key, val⟩) : w.cell? ⟨b, off + k * 2, none⟩ = some (.int .i64 key) ∧ w.cell? ⟨b, off + k * 2 + 1, none⟩ = some (.int .i64 val) := by
  obtain ⟨b', off', hab, hlt, h1, h2⟩ := h.cell k ⟨key, val⟩ he
  simp at hab
  obtain ⟨rfl, rfl⟩ := hab
  exact ⟨h1, h2⟩
theorem EnsAt.take {a : Option Addr} {l : List En} (h : EnsAt w a l) (p : Nat) : EnsAt w a (l.take p) :=
  ⟨fun j e he => h.cell j e (by rw [List.getElem?_take] at he; split at he; exact he; cases he), fun e he => h.wf e (List.mem_of_mem_take he)⟩
theorem EnsAt.drop {b off : Nat} {l : List En} (h : EnsAt w (some ⟨b, off, none⟩) l) (p : Nat) : EnsAt w (some ⟨b, off + p * 2, none⟩) (l.drop p) :=
  ⟨fun j e he => by
    rw [List.getElem?_drop] at he
    obtain ⟨b', off', hab, hlt, h1, h2⟩ := h.cell (p + j) e he
    simp at hab
    obtain ⟨rfl, rfl⟩ := hab
    refine ⟨_, _, rfl, hlt, ?_, ?_⟩
    · rw [show off + p * 2 + j * 2 = off + (p + j) * 2 by omega]; exact h1
    · rw [show off + p * 2 + j * 2 + 1 = off + (p + j) * 2 + 1 by omega]; exact h2, fun e he => h.wf e (List.mem_of_mem_drop he)⟩
end
def PlantRes (I : AImpl) (A : Ar) (rd : Int) (F : Nat → Prop) (held : Nat → Nat) (l : List En) (p : Value) (w : World) (e : Ending) (w' : World) : Prop :=
  ∃ (A' : Ar) (i : Nat) (t : Tr) (F' : Nat → Prop), Planted A held l A' i t ∧ e = .returned (.tuple #[.int .u32 (i : Int), .bool true]) ∧ Alters F F' w w' ∧ I.Is w' p A' rd F'
def PlantSpec (I : AImpl) (n : Nat) : Prop := ∀ (l : List En) (a : Option Addr) (c : Nat) (tilt : Int) (p : Value) (A : Ar) (rd : Int) (F : Nat → Prop) (held : Nat → Nat) (w : World),
  l.length = n → I.Is w p A rd F → A.Inv [] held → A.Agg → (∀ j, held j + 2 * n ≤ 1048576) → n ≤ A.σ.free.length → EnsAt w a l → (n ≠ 0 → ∀ b off, a = some ⟨b, off, none⟩ → ¬ F b) → n ≤ c → c ≤ maxLen → 0 ≤ tilt → tilt < 18446744073709551616 →
  Calls Try.prog 16 #[p, .slice a n c, .int .u64 tilt] w (PlantRes I A rd F held l p w)
theorem u64_in (x : Int) : 0 ≤ IntKind.u64.wrap x ∧ IntKind.u64.wrap x < 18446744073709551616 := by rw [IntKind.wrap_u64]; omega
theorem split_at {l : List En} {k : Nat} {en : En} (h : l[k]? = some en) : l = l.take k ++ en :: l.drop (k + 1) := by
  obtain ⟨hk, he⟩ := List.getElem?_eq_some_iff.1 h
  rw [← he, ← List.drop_eq_getElem_cons hk, List.take_append_drop]
theorem make_call (I : AImpl) {p : Value} {A : Ar} {rd : Int} {F : Nat → Prop} {key val : Int} {il ir i : Nat} {fr : List Nat} {held : Nat → Nat} {w : World} (hI : I.Is w p A rd F) (hv : A.Inv [] held) (ha : A.Agg) (hh : ∀ j, held j ≤ 1048576) (hk : i64R key ∧ i64R val) (hl : A.Idx il) (hr : A.Idx ir) (hs : (A.node key val il ir).size ≤ 2147483647) (hf : A.σ.free = i :: fr) :
    Calls Try.prog 33 #[p, .int .i64 key, .int .i64 val, .int .u32 (il : Int), .int .u32 (ir : Int)] w fun e w' => e = .returned (.tuple #[.int .u32 (i : Int), .int .i64 0]) ∧ ∃ F', Alters F F' w w' ∧ I.Is w' p (A.made i fr (A.node key val il ir)) rd F' := by
  have h4 : ∀ x, A.Idx x → x < 4294967296 := fun x hx => by
    rcases hx with h | h
    · omega
    · have := hv.ok.on x h; have := hv.ok.cap2; omega
  refine (I.make p A rd F key val il ir held w hI hv ha hh hk.1.1 hk.1.2 hk.2.1 hk.2.2 (h4 il hl) (h4 ir hr)).mono ?_
  rintro e w1 ⟨F', hal, _, _, h6⟩
  obtain ⟨rfl, h7⟩ := h6 ⟨hl, hr, hs⟩ i fr hf
  exact ⟨rfl, F', hal, h7⟩
theorem release_call (I : AImpl) {p : Value} {A : Ar} {rd : Int} {F : Nat → Prop} {i : Nat} {held : Nat → Nat} {w : World} (hI : I.Is w p A rd F) (hok : A.σ.Ok) (hv : A.Idx i → A.Inv [i] held) (hi : A.Idx i) :
    Calls Try.prog 11 #[p, .int .u32 (i : Int)] w fun e w' => (∃ m : Nat, e = .returned (.tuple #[.int .i64 (m : Int), .int .i64 0])) ∧ ∃ F', Alters F F' w w' ∧ I.Is w' p (A.gone i) rd F' := by
  have h4 : i < 4294967296 := by
    rcases hi with h | h
    · omega
    · have := hok.on i h; have := hok.cap2; omega
  refine (I.release p A rd F i held w hI h4 hv).mono ?_
  rintro e w1 ⟨F', hal, _, h6⟩
  obtain ⟨rfl, h7⟩ := h6 hi
  exact ⟨⟨_, rfl⟩, F', hal, h7⟩
set_option maxHeartbeats 8000000 in
set_option maxRecDepth 100000 in
theorem plant_step (I : AImpl) (n : Nat) (ih : ∀ m, m < n → PlantSpec I m) : PlantSpec I n := by
  intro l a c tilt p A rd F held w hn hI hInv hAg hh hf hE hd hc hcm ht0 ht1
  obtain ⟨pa, rfl⟩ := I.ptr hI
  have HIH := Lib.hid ih
  have HI := Lib.hid hI
  have HINV := Lib.hid hInv
  have HAG := Lib.hid hAg
  have HH := Lib.hid hh
  have HF := Lib.hid hf
  have HE := Lib.hid hE
  have HD := Lib.hid hd
  have HN := Lib.hid hn
  have hcap := hInv.ok.len
  have hcap2 := hInv.ok.cap2
  have hn6 : n ≤ 65536 := by omega
  have HC : Hid (n ≤ c ∧ c ≤ maxLen ∧ n ≤ 65536) := ⟨hc, hcm, hn6⟩
  have HT : Hid (0 ≤ tilt ∧ tilt < 18446744073709551616) := ⟨ht0, ht1⟩
  clear ih hI hInv hAg hh hf hE hd hn hcap hcap2
  by_cases h0 : n = 0
  · subst h0
    have hl : l = [] := List.eq_nil_of_length_eq_zero HN.out
    have HP : Hid (PlantRes I A rd F held l (.pointer (some pa)) w (.returned (.tuple #[.int .u32 ((0 : Nat) : Int), .bool true])) w) := ⟨A, 0, .nil, F, by rw [hl]; exact .nil HINV.out HAG.out, rfl, .refl w F, HI.out⟩
    clear hl HIH hc hcm hn6 ht0 ht1
    go_enter Try.func16, Try.ntmps16
    go_wp2_with fail
    go_ret2
    exact HP.out
  · have hne : ((n : Int) == 0) = false := by simp; exact h0
    have hni : (n : Int) ≤ 65536 := by omega
    have hn1 : (1 : Int) ≤ (n : Int) := by omega
    have hn0 : 1 ≤ n := by omega
    have HN0 := Lib.hid hn0
    have hci : (n : Int) ≤ (c : Int) := by omega
    have hcx : (c : Int) ≤ 9223372036854775807 := by unfold maxLen at hcm; omega
    obtain ⟨b, off, rfl⟩ : ∃ b off, a = some ⟨b, off, none⟩ := by
      obtain ⟨b, off, h1, _⟩ := HE.out.cell 0 (l[0]'(by have := HN.out; omega)) (List.getElem?_eq_getElem _)
      exact ⟨b, off, h1⟩
    have hFb := HD.out h0 b off rfl
    have HFB := Lib.hid hFb
    have hwc : IntKind.i64.wrap (n : Int) = (n : Int) := by rw [IntKind.wrap_i64]; omega
    clear h0 hn0 hc hcm hn6 hFb HD hwc
    go_enter Try.func16, Try.ntmps16
    go_wp2_with fail
    refine (pivot_any n tilt w HN0.out (by have := HC.out; omega) HT.out.1 HT.out.2).mono ?_
    rintro e w1 ⟨⟨k, rfl, hk, hbal⟩, rfl⟩
    have HK := Lib.hid hk
    have HBAL := Lib.hid hbal
    have hki : (k : Int) < (n : Int) := by omega
    have hk0 : (0 : Int) ≤ (k : Int) := by omega
    have hkw : IntKind.i64.wrap ((k : Int) + 1) = ((k + 1 : Nat) : Int) := by rw [IntKind.wrap_i64]; omega
    have hk1 : ((k + 1 : Nat) : Int) ≤ (n : Int) := by omega
    have hkt : (((k + 1 : Nat) : Int)).toNat = k + 1 := Int.toNat_natCast _
    have hk10 : (0 : Int) ≤ (k : Int) + 1 := by omega
    clear hk hbal
    go_wp2_with fail
    have hlk : (l.take k).length = k := by rw [List.length_take]; have := HN.out; have := HK.out; omega
    refine (HIH.out k HK.out (l.take k) _ c _ _ A rd F held w hlk HI.out HINV.out HAG.out (fun j => by have := HH.out j; have := HK.out; omega) (by have := HF.out; have := HK.out; omega) (HE.out.take k) (fun _ b' off' h => by simp at h; rw [← h.1]; exact HFB.out) (by have := HC.out; have := HK.out; omega) HC.out.2.1 (u64_in _).1 (u64_in _).2).mono ?_
    rintro e w2 ⟨A1, il, tl, F1, hP1, rfl, hal1, hI1⟩
    have HP1 := Lib.hid hP1
    have HAL1 := Lib.hid hal1
    have HI1 := Lib.hid hI1
    clear hP1 hal1 hI1 hlk ht0 ht1
    have hE2 := HE.out.alters HAL1.out (fun b' off' h => by simp at h; rw [← h.1]; exact HFB.out)
    have HE2 := Lib.hid hE2
    have hFB1 : ∀ k, k < w.heap.size → k = b → k < w2.heap.size ∧ ¬ F1 k := fun k hk e => HAL1.out.apart (G := fun j => j = b ∧ j < w.heap.size) (fun j hj => ⟨hj.2, by rw [hj.1]; exact HFB.out⟩) k ⟨e, hk⟩
    have hlb : b < w.heap.size := by
      obtain ⟨b', off', h1, h2, _⟩ := HE.out.cell 0 (l[0]'(by have := HN.out; have := HN0.out; omega)) (List.getElem?_eq_getElem _)
      simp at h1
      rw [h1.1]; exact h2
    have HFB1 := Lib.hid (hFB1 b hlb rfl)
    have hld : (l.drop (k + 1)).length = n - (k + 1) := by rw [List.length_drop]; have := HN.out; omega
    have HLD := Lib.hid hld
    clear hE2 hFB1 hlb hld
    go_wp2_with fail
    all_goals (
      refine (HIH.out (n - (k + 1)) (by have := HN0.out; omega) (l.drop (k + 1)) _ _ _ _ A1 rd F1 (pls held il) w2 HLD.out HI1.out HP1.out.inv HP1.out.agg (fun j => by rw [pls_at]; have := HH.out j; have := HK.out; split <;> omega) (by have h1 := HP1.out.free; have h2 := HF.out; have h3 := HK.out; rw [List.length_take, HN.out] at h1; omega) ?_ (fun _ b' off' h => by cases h; exact HFB1.out.2) (by have := HC.out; omega) (by have := HC.out; unfold maxLen at *; omega) (u64_in _).1 (u64_in _).2).mono ?_
      first
        | exact HE2.out.drop (k + 1)
        | (have e : l.drop (k + 1) = [] := List.eq_nil_of_length_eq_zero (by have := HC.out; have := HLD.out; omega); rw [e]; exact EnsAt.nil _ _)
      rintro e w3 ⟨A2, ir, tr, F2, hP2, rfl, hal2, hI2⟩
      have HP2 := Lib.hid hP2
      have HAL2 := Lib.hid hal2
      have HI2 := Lib.hid hI2
      clear hP2 hal2 hI2
      obtain ⟨fr0, hfr0⟩ : ∃ x, A2.σ.free = x := ⟨_, rfl⟩
      cases fr0 with
      | nil => exact absurd (congrArg List.length hfr0) (by have h1 := HP2.out.free; have h2 := HP1.out.free; have h3 := HF.out; have h4 := HLD.out; have h5 := HK.out; rw [List.length_take, HN.out] at h2; simp only [List.length_nil]; omega)
      | cons i fr =>
        have HFR := Lib.hid hfr0
        clear hfr0
        have hE3 := HE2.out.alters HAL2.out (fun b' off' h => by simp at h; rw [← h.1]; exact HFB1.out.2)
        have hkl : k < l.length := by have := HN.out; have := HK.out; omega
        obtain ⟨en, hen⟩ : ∃ en, l[k]? = some en := ⟨_, List.getElem?_eq_getElem hkl⟩
        have hspl := split_at hen
        obtain ⟨b', off', hbb, hbl, c0, c1⟩ := hE3.cell k en hen
        simp only [Option.some.injEq, Addr.mk.injEq, and_true] at hbb
        obtain ⟨rfl, rfl⟩ := hbb
        have hwf := hE3.wf en (List.mem_of_getElem? hen)
        have HE3 := Lib.hid hE3
        have HKL := Lib.hid hkl
        have HSPL := Lib.hid hspl
        have HWF := Lib.hid hwf
        have HEN := Lib.hid hen
        have hF2b := (HAL2.out.apart (G := fun j => j = b) (fun j hj => by rw [hj]; exact HFB1.out) b rfl)
        have HF2B := Lib.hid hF2b
        have hlt := HLD.out
        have hb2 : bal ((l.take k).length : Int) ((l.drop (k + 1)).length : Int) = true := by
          rw [HLD.out, List.length_take, HN.out, Nat.min_eq_left (Nat.le_of_lt HK.out)]
          have := HBAL.out
          rw [show ((n - (k + 1) : Nat) : Int) = (n : Int) - 1 - (k : Int) by have := HK.out; omega]
          exact this
        have hnode := Planted.node (e := en) HP1.out HP2.out HFR.out rfl hb2 (by rw [HLD.out, List.length_take, HN.out]; have := HC.out; omega)
        have HNODE := Lib.hid hnode
        have hsl := HP1.out.sub.kept HP2.out.kept
        have hov := over_ok rfl HP2.out.inv HP2.out.agg HFR.out hsl.idx HP2.out.sub.idx hnode.2
        have HOV := Lib.hid hov
        have HIL : Hid (A2.Idx il ∧ A2.Idx ir) := ⟨hsl.idx, HP2.out.sub.idx⟩
        clear hE3 hkl hen hspl hwf hF2b hlt hb2 hnode hsl hov
        obtain ⟨key, val⟩ := en
        have hH : ∀ j, pls (pls held il) ir j ≤ 1048576 := fun j => by rw [pls_at, pls_at]; have := HH.out j; have := HN0.out; split <;> split <;> omega
        have HHH := Lib.hid hH
        clear hH
        go_upto_region 10 with fail
        go_cut [13, 14] (fun s13 s14 wx => s13 = .int .u32 (i : Int) ∧ s14 = .int .i64 0 ∧ ∃ F3, Alters F2 F3 w3 wx ∧ I.Is wx (.pointer (some pa)) (A2.made i fr (A2.node key val il ir)) rd F3)
        case first =>
          go_region_held3 (fun w' => w'.cell? ⟨b, off + k * 2, none⟩ = some (.int .i64 key) ∧ w'.cell? ⟨b, off + k * 2 + 1, none⟩ = some (.int .i64 val)) (go_keep) ((go_at_call 33; refine (make_call I (I.below HI2.out (Below.refl _ _).drew) HP2.out.inv HP2.out.agg HHH.out HWF.out HIL.out.1 HIL.out.2 HNODE.out.2 HFR.out).mono ?_; rintro e wx ⟨rfl, F3, hal3, hI3⟩; have t1x := (EnsAt.alters (HE3.out.below (Below.refl _ _).drew) hal3 (fun b' off' h => by simp at h; rw [← h.1]; exact HF2B.out.2)).two HEN.out; obtain ⟨t1, t2⟩ := t1x))
          all_goals (go_wp2_with fail; go_meet; exact ⟨rfl, rfl, F3, (Alters.of_below (Below.refl _ _).drew).trans hal3, hI3⟩)
        case' rest =>
          rename World => w4
          obtain ⟨rfl, rfl, F3, hal3, hI3⟩ := hcut
          obtain ⟨o1, o2, o3, o4, o5, o6, o7, o8, o9, o10⟩ := HOV.out
          have HOK4 := Lib.hid (o7 o8).ok
          have HOK5 := Lib.hid (o9 o10).ok
          have HO7 := Lib.hid o7
          have HO8 := Lib.hid o8
          have HO9 := Lib.hid o9
          have HO10 := Lib.hid o10
          have HI3 := Lib.hid hI3
          have HA3 : Hid (Alters F F3 w w4) := (HAL1.out.trans HAL2.out).trans hal3
          have hi0 : ((i : Int) == 0) = false := by simp; exact o6
          have HI2 : Hid (((i : Int) != 0) = true) := by
            show ((i : Int) != 0) = true
            simp; exact o6
          clear o1 o2 o3 o4 o5 o6 o7 o8 o9 o10 hal3 hI3 c0 c1
          go_wp2_with fail
          refine (release_call I HI3.out HOK4.out HO7.out HO8.out).mono ?_
          rintro e w5 ⟨⟨m, rfl⟩, F4, hal4, hI4⟩
          have HI4 := Lib.hid hI4
          have HA4 : Hid (Alters F F4 w w5) := HA3.out.trans hal4
          clear hal4 hI4
          go_wp2_with fail
          refine (release_call I HI4.out HOK5.out HO9.out HO10.out).mono ?_
          rintro e w6 ⟨⟨m', rfl⟩, F5, hal5, hI5⟩
          have HR : Hid (PlantRes I A rd F held l (.pointer (some pa)) w (.returned (.tuple #[.int .u32 (i : Int), .bool ((i : Int) != 0)])) w6) := ⟨_, i, _, F5, (by rw [HSPL.out]; exact HNODE.out.1), (by rw [HI2.out]), HA4.out.trans hal5, hI5⟩
          clear hal5 hI5
          go_wp2_with fail
          go_ret2
          exact HR.out)
theorem plant_any (I : AImpl) (n : Nat) : PlantSpec I n := Nat.strongRecOn n fun n ih => plant_step I n ih
end Go.Proofs.Ytehaffcjoafkcaa
set_option linter.unusedVariables false
set_option linter.unusedSimpArgs false
namespace Go.Proofs.Ytehaffcjoafkcaa
open Go.RowKit
structure Grown (I : AImpl) (m : Nat) (l : List En) (w : World) (p : Value) (A : Ar) (i : Nat) (t : Tr) (F : Nat → Prop) (w' : World) : Prop where
  planted : Planted (Ar.init m) (fun _ => 0) l A i t
  is : I.Is w' p A 0 F
  foot : ∀ k, F k → w.heap.size ≤ k
  below : Below w.heap.size w w'
def GrowRes (I : AImpl) (m : Nat) (l : List En) (w : World) (e : Ending) (w' : World) : Prop :=
  ∃ (p : Value) (A : Ar) (i : Nat) (t : Tr) (F : Nat → Prop), e = .returned (.tuple #[p, .int .u32 (i : Int), .bool true]) ∧ Grown I m l w p A i t F w'
set_option maxHeartbeats 2000000 in
set_option maxRecDepth 100000 in
theorem grow_any (I : AImpl) {l : List En} {a : Option Addr} {n c sp m : Nat} {tilt : Int} {w : World} (hE : EnsAt w a l) (hn : l.length = n) (hc : n ≤ c) (hcm : c ≤ maxLen) (hm : n + sp = m) (h1 : 1 ≤ m) (h2 : m ≤ 65536) (ht0 : 0 ≤ tilt) (ht1 : tilt < 18446744073709551616) :
    Calls Try.prog 5 #[.slice a n c, .int .u64 tilt, .int .i64 (sp : Int)] w (GrowRes I m l w) := by
  have hw : IntKind.i64.wrap ((n : Int) + (sp : Int)) = (m : Int) := by rw [IntKind.wrap_i64]; omega
  have HW := Lib.hid hw
  have HE := Lib.hid hE
  have HN := Lib.hid hn
  have HT : Hid (0 ≤ tilt ∧ tilt < 18446744073709551616) := ⟨ht0, ht1⟩
  have HM : Hid (1 ≤ m ∧ m ≤ 65536 ∧ n ≤ m ∧ n ≤ c ∧ c ≤ maxLen ∧ n + sp = m) := ⟨h1, h2, by omega, hc, hcm, hm⟩
  have hni : (n : Int) ≤ 65536 := by omega
  have hsi : (sp : Int) ≤ 65536 := by omega
  clear hw hE hn hc hcm hm h1 h2 ht0 ht1
  go_enter Try.func5, Try.ntmps5
  go_wp2_with fail
  rw [show (n : Int) + (sp : Int) = (m : Int) by have := HM.out; omega]
  refine (I.new_ok m w HM.out.1 HM.out.2.1).mono ?_
  rintro e w1 ⟨p, F, rfl, hI, hF, hb1⟩
  obtain ⟨pa, rfl⟩ := I.ptr hI
  have HI := Lib.hid hI
  have HF := Lib.hid hF
  have HB1 := Lib.hid hb1
  have HE1 : Hid (EnsAt w1 a l) := HE.out.below hb1
  have HFB : Hid (∀ b off, a = some ⟨b, off, none⟩ → n ≠ 0 → ¬ F b) := fun b off e h0 hFb => by
    obtain ⟨b', off', h1, h2, _⟩ := HE.out.cell 0 (l[0]'(by have := HN.out; omega)) (List.getElem?_eq_getElem _)
    rw [e] at h1
    simp at h1
    have := HF.out b hFb
    omega
  clear hI hF hb1
  go_wp2_with fail
  refine (plant_any I n l a c tilt (.pointer (some pa)) (Ar.init m) 0 F (fun _ => 0) w1 HN.out HI.out (Ar.init_inv HM.out.1 HM.out.2.1) (Ar.init_agg m) (fun j => by have := HM.out; show 0 + _ ≤ _; omega) (by have := HM.out; show n ≤ (St.init m).free.length; simp [St.init]; omega) HE1.out (fun h0 b off e => HFB.out b off e h0) HM.out.2.2.2.1 HM.out.2.2.2.2.1 HT.out.1 HT.out.2).mono ?_
  rintro e w2 ⟨A, i, t, F', hP, rfl, hal, hI2⟩
  have HR : Hid (GrowRes I m l w (.returned (.tuple #[.pointer (some pa), .int .u32 (i : Int), .bool true])) w2) := ⟨_, A, i, t, F', rfl, hP, hI2, hal.from HB1.out.size HF.out, hal.below HB1.out HB1.out.size HF.out⟩
  clear hP hal hI2
  go_wp2_with fail
  go_ret3
  exact HR.out
end Go.Proofs.Ytehaffcjoafkcaa
set_option linter.unusedVariables false
namespace Go.Proofs.Ytehaffcjoafkcaa
structure Fd where
  kind : Int
  slot : Nat
  want : Int
  have_ : Int
def opt (b : Bool) (f : Fd) : List Fd := if b = true then [f] else []
section
variable (S : Nat → Sl) (n : Nat) (fr rs : List Nat) (R : Nat → Bool)
def wantFree (i : Nat) : Int := if (S i).on = true then 0 else 1
def F1 (i : Nat) : List Fd := opt (((fr.count (i + 1) : Nat) : Int) != wantFree S i) ⟨1, i + 1, wantFree S i, ((fr.count (i + 1) : Nat) : Int)⟩
/-- the size by the first t children -/
def szF (i : Nat) : Nat → Int
  | 0 => 1
  | t + 1 => if Al S n (kd (S i) t) then IntKind.i64.wrap (szF i t + (S (kd (S i) t - 1)).nd.size) else szF i t
def F3 (i : Nat) : List Fd := opt (szF S n i 2 != (S i).nd.size) ⟨3, i + 1, szF S n i 2, (S i).nd.size⟩
def wantCount (i : Nat) : Int := if (S i).on = true then ((eg S n (i + 1) + rs.count (i + 1) : Nat) : Int) else 0
def F4 (i : Nat) : List Fd := opt (wantCount S n rs i != (S i).cnt) ⟨4, i + 1, wantCount S n rs i, (S i).cnt⟩
def F5 (i : Nat) : List Fd := opt ((S i).on && !R i) ⟨5, i + 1, 0, 0⟩
end
end Go.Proofs.Ytehaffcjoafkcaa
set_option linter.unusedVariables false
namespace Go.Proofs.Ytehaffcjoafkcaa
def Ar.sl (A : Ar) (i : Nat) : Sl := ⟨A.σ.on (i + 1), A.cnt (i + 1), A.σ.gen (i + 1), A.nd (i + 1)⟩
theorem al_on {A : Ar} (h : A.σ.Ok) (x : Nat) : Al A.sl A.σ.cap x ↔ A.σ.on x = true := by
  unfold Al Ar.sl
  constructor
  · rintro ⟨h1, h2, h3⟩
    rwa [show x - 1 + 1 = x by omega] at h3
  · intro h1
    have h2 := h.on x h1
    exact ⟨by omega, by omega, by rwa [show x - 1 + 1 = x by omega]⟩
end Go.Proofs.Ytehaffcjoafkcaa
