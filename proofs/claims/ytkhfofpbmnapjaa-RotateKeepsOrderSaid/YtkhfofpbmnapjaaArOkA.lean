/- The program's arena: Release. The program's arena: New, Dump. The program's arena: Dump. The program's arena keeps what is asked. -/
import Derived.Test.YtkhfofpbmnapjaaArOk6
import Derived.Test.YtkhfofpbmnapjaaDumpE
import Derived.Maps.AppendAt
set_option linter.unusedVariables false
namespace Go.Proofs.Ytkhfofpbmnapjaa
open Go.RowKit
theorem run_pop0 (f : Nat) (A : Ar) (t : List Nat) : Ar.run (f + 1) A (0 :: t) = Ar.run f A t := by
  conv => lhs; unfold Ar.run
  rw [if_pos rfl]
theorem run_popDec (f : Nat) (A : Ar) {i : Nat} (t : List Nat) (h0 : i ≠ 0) (hc : A.cnt i ≠ 1) : Ar.run (f + 1) A (i :: t) = Ar.run f (A.dec i) t := by
  conv => lhs; unfold Ar.run
  rw [if_neg h0, if_neg hc]
theorem run_popDrop (f : Nat) (A : Ar) {i : Nat} (t : List Nat) (h0 : i ≠ 0) (hc : A.cnt i = 1) : Ar.run (f + 1) A (i :: t) = ((Ar.run f (A.drop i) ((A.nd i).left :: (A.nd i).right :: t)).1, (Ar.run f (A.drop i) ((A.nd i).left :: (A.nd i).right :: t)).2 + 1) := by
  conv => lhs; unfold Ar.run
  rw [if_neg h0, if_pos hc]
theorem run_nil (f : Nat) (A : Ar) : Ar.run f A [] = (A, 0) := by cases f <;> rfl
/-- the cascade at hand in memory: A' is the arena, s the stack, n slots have become free -/
structure RelR (I : Impl) (w : World) (ab : Nat) (sp : Addr) (A : Ar) (rd : Int) (g cc : Nat) (Fs : Nat → Prop) (held : Nat → Nat) (i k : Nat) (n : Nat) (x : Value) (A' : Ar) (s : List Nat) (Fs' : Nat → Prop) (wr : World) : Prop where
  val : ∃ a c, x = .slice a s.length c
  work : wr.ownsRow w.heap.size 28 1 x s.length (u32s s.reverse)
  lie : LieA I wr ab sp A' rd (some ⟨g, 0, none⟩) cc Fs'
  alt : Alters (FootA ab (some ⟨g, 0, none⟩) Fs) (FootA ab (some ⟨g, 0, none⟩) Fs') w wr
  sep : ∀ b, x.ownBlock = some b → ¬ FootA ab (some ⟨g, 0, none⟩) Fs' b
  inv : A'.Inv s held
  run : (Ar.run k A' s).1 = A.gone i ∧ (Ar.run k A' s).2 + n = A.freed i
  fuel : 3 * (A'.σ.cap - A'.σ.free.length) + s.length ≤ k
  big : k ≤ 200000
  few : n + (A'.σ.cap - A'.σ.free.length) ≤ 65536
section
variable {I : Impl} {w w' wr : World} {ab : Nat} {sp : Addr} {A A' : Ar} {rd : Int} {cc g : Nat} {Fs Fs' Fs2 : Nat → Prop} {held : Nat → Nat} {i k n : Nat} {x v : Value} {s t : List Nat}
theorem RelR.below (h : RelR I w ab sp A rd g cc Fs held i k n x A' s Fs' wr) (hb : Below wr.heap.size wr w') : RelR I w ab sp A rd g cc Fs held i k n x A' s Fs' w' :=
  ⟨h.val, row_below h.work hb, h.lie.below hb, h.alt.trans (.of_below hb), h.sep, h.inv, h.run, h.fuel, h.big, h.few⟩
/-- what lies in memory behind the pop and the removal -/
structure MidR (I : Impl) (w : World) (ab : Nat) (sp : Addr) (rd : Int) (g cc : Nat) (Fs : Nat → Prop) (x : Value) (A' : Ar) (t : List Nat) (Fs' : Nat → Prop) (wr : World) : Prop where
  work : wr.ownsRow w.heap.size 28 1 x t.length (u32s t.reverse)
  lie : LieA I wr ab sp A' rd (some ⟨g, 0, none⟩) cc Fs'
  alt : Alters (FootA ab (some ⟨g, 0, none⟩) Fs) (FootA ab (some ⟨g, 0, none⟩) Fs') w wr
  sep : ∀ b, x.ownBlock = some b → ¬ FootA ab (some ⟨g, 0, none⟩) Fs' b
theorem MidR.below (h : MidR I w ab sp rd g cc Fs x A' t Fs' wr) (hb : Below wr.heap.size wr w') : MidR I w ab sp rd g cc Fs x A' t Fs' w' :=
  ⟨row_below h.work hb, h.lie.below hb, h.alt.trans (.of_below hb), h.sep⟩
theorem RelR.mid {y : Nat} {a : Addr} {c : Nat} {B : Ar} (h : RelR I w ab sp A rd g cc Fs held i k n (.slice (some a) (t.length + 1) c) A' (y :: t) Fs' wr) (ha : Alters (FootA ab (some ⟨g, 0, none⟩) Fs') (FootA ab (some ⟨g, 0, none⟩) Fs2) wr w') (hl : LieA I w' ab sp B rd (some ⟨g, 0, none⟩) cc Fs2) :
    MidR I w ab sp rd g cc Fs (.slice (some a) t.length c) B t Fs2 w' := by
  have hw := h.work
  rw [List.length_cons] at hw
  obtain ⟨g2, hg2⟩ := row_head hw (by omega)
  rw [hg2] at hw ⊢
  have h1 := row_cut hw (m := t.length) (by omega)
  have e : (u32s (y :: t).reverse).take t.length = u32s t.reverse := by
    rw [List.reverse_cons, u32s_app]
    exact List.take_left' (by simp [u32s])
  rw [e] at h1
  have hs : ∀ b, (Value.slice (some (⟨g2, 0, none⟩ : Addr)) t.length c).ownBlock = some b → ¬ FootA ab (some ⟨g, 0, none⟩) Fs' b := fun b hb => h.sep b (by rw [hg2]; exact hb)
  have h2 := ha.apart (G := fun b => (Value.slice (some (⟨g2, 0, none⟩ : Addr)) t.length c).ownBlock = some b) fun b hb => ⟨(row_lt h1 b hb).2, hs b hb⟩
  exact ⟨ha.row h1 hs, hl, h.alt.trans ha, fun b hb => (h2 b hb).2⟩
/-- the children are pushed -/
theorem MidR.push {l r : Nat} (h : MidR I w ab sp rd g cc Fs x A' t Fs' wr) (hg : wr.grownBy w' x.ownBlock) (hr : w'.ownsRow w.heap.size 28 1 v (t.length + 2) (u32s t.reverse ++ [.int .u32 (r : Int), .int .u32 (l : Int)]))
    (hv : v.ownBlock = x.ownBlock ∨ v.ownBlock = some wr.heap.size) : MidR I w ab sp rd g cc Fs v A' (l :: r :: t) Fs' w' := by
  refine ⟨?_, h.lie.keep fun b hb => hg.block b (h.lie.dom b hb) fun e => h.sep b e.symm hb, ⟨hg.os.trans h.alt.os, hg.tape.trans h.alt.tape, hg.output.trans h.alt.output, Nat.le_trans h.alt.size hg.size, fun b hb hF => (hg.block b (Nat.lt_of_lt_of_le hb h.alt.size) fun e => ?_).trans (h.alt.block b hb hF), h.alt.foot⟩, fun b hb hF => ?_⟩
  · rw [show (l :: r :: t).reverse = t.reverse ++ [r, l] by simp, u32s_app]
    exact hr
  · have := row_from h.work b e.symm; omega
  · rcases hv with e | e
    · exact h.sep b (e ▸ hb) hF
    · rw [e] at hb; simp at hb; have := h.lie.dom b hF; omega
set_option maxHeartbeats 1000000 in
set_option maxRecDepth 100000 in
theorem a_release_bad (h : LieA I w ab sp A rd (some ⟨g, 0, none⟩) cc Fs) (i : Nat) (hi : i < 4294967296) (hb : ¬ A.Idx i) :
    Calls Try.prog 47 #[.pointer (some ⟨ab, 0, none⟩), .int .u32 (i : Int)] w (Calm w (.tuple #[.int .i64 0, .int .i64 3])) := by
  have hx : (decide (i = 0) || A.σ.on i) = false := by
    unfold Ar.Idx at hb
    have h1 : ¬ i = 0 := fun e => hb (.inl e)
    have h2 : ¬ A.σ.on i = true := fun e => hb (.inr e)
    simp [h1, h2]
  have HI := Lib.hid (a_isIndex h i hi)
  have HX := Lib.hid hx
  clear h hb hx
  go_enter Try.func47, Try.ntmps47
  go_wp2_with fail
  refine HI.out.mono ?_
  rintro e w2 ⟨rfl, q, rfl⟩
  rw [HX.out]
  clear HI HX
  go_wp2_with fail
  go_ret2
  exact ⟨rfl, below_drewN (Below.refl _ _) _⟩
def ARel (I : Impl) (w : World) (ab : Nat) (sp : Addr) (A : Ar) (rd : Int) (g cc : Nat) (Fs : Nat → Prop) (i : Nat) (e : Ending) (w' : World) : Prop :=
  ∃ Fs', Alters (FootA ab (some ⟨g, 0, none⟩) Fs) (FootA ab (some ⟨g, 0, none⟩) Fs') w w' ∧ e = .returned (.tuple #[.int .i64 (A.freed i : Int), .int .i64 0]) ∧ LieA I w' ab sp (A.gone i) rd (some ⟨g, 0, none⟩) cc Fs'
theorem u32InfoA : (Try.prog.info? 28).map (fun i => (i.zero, i.size, i.bytes)) = some (some (.int .u32 0), 1, 4) := by kernel_rfl
set_option maxHeartbeats 4000000 in
set_option maxRecDepth 100000 in
theorem a_release (h : LieA I w ab sp A rd (some ⟨g, 0, none⟩) cc Fs) (i : Nat) (hi : i < 4294967296) (hb : A.Idx i) (hinv : A.Inv [i] held) :
    Calls Try.prog 47 #[.pointer (some ⟨ab, 0, none⟩), .int .u32 (i : Int)] w (ARel I w ab sp A rd g cc Fs i) := by
  obtain ⟨i1, ji, jz0, jz1, jz2⟩ := info_parts u32InfoA
  have hx : (decide (i = 0) || A.σ.on i) = true := by
    rcases hb with e | e
    · simp [e]
    · simp [e]
  have HI := Lib.hid (a_isIndex h i hi)
  have HX := Lib.hid hx
  have HH := Lib.hid h
  have HINV := Lib.hid hinv
  clear h hx hb hinv
  go_enter Try.func47, Try.ntmps47
  go_wp2_with fail
  refine HI.out.mono ?_
  rintro e w1 ⟨rfl, q, rfl⟩
  rw [HX.out]
  have hb1 : Below w.heap.size w (w.drewN q) := below_drewN (Below.refl _ _) q
  generalize w.drewN q = w1 at hb1 ⊢
  have h1 := HH.out.below hb1
  have hal := below_al w1 (Obj.cells #[Value.int .u32 (i : Int)] 28)
  have hrow := World.ownsRow_lit (base := w.heap.size) (e := 28) (size := 1) w1 #[Value.int .u32 (i : Int)] 1 hb1.size (by decide) rfl
  have hlen := HINV.out.ok.len
  have hcap := HINV.out.ok.cap2
  have HM : Hid (RelR I w ab sp A rd g cc Fs held i A.fuel 0 (.slice (some ⟨w1.heap.size, 0, none⟩) 1 1) A [i] Fs (w1.alloc (Obj.cells #[Value.int .u32 (i : Int)] 28))) := by
    refine ⟨⟨_, _, rfl⟩, hrow, h1.below hal, .of_below (trans_of' hb1 hal), fun b hb hF => ?_, HINV.out, ⟨rfl, rfl⟩, ?_, ?_, by omega⟩
    · simp [Value.ownBlock] at hb
      have := h1.dom b hF
      omega
    · unfold Ar.fuel; simp; omega
    · unfold Ar.fuel; omega
  clear h1 hal hrow hlen hcap hb1 HI HX
  go_wp2_with fail
  go_loopg [6, 7] A.fuel (fun gk fr x wr => ∃ n A' s Fs', fr = .int .i64 ((n : Nat) : Int) ∧ RelR I w ab sp A rd g cc Fs held i gk n x A' s Fs' wr)
  case atStart => exact ⟨0, _, _, _, rfl, HM.out⟩
  case round =>
    clear HM
    obtain ⟨n, A', s, Fs', rfl, hM⟩ := hrel
    obtain ⟨xa, xc, rfl⟩ := hM.val
    have hnb := hM.few
    rcases (show s = [] ∨ ∃ y t, s = y :: t by cases s with | nil => exact .inl rfl | cons y t => exact .inr ⟨y, t, rfl⟩) with rfl | ⟨y, t, rfl⟩
    · have HMM := Lib.hid hM
      clear hM hnb
      rw [show ([] : List Nat).length = 0 from rfl]
      go_wp2_with fail
      go_ret2
      have hr := HMM.out.run
      rw [run_nil] at hr
      refine ⟨Fs', HMM.out.alt, by rw [← hr.2]; simp, ?_⟩
      rw [← hr.1]
      exact HMM.out.lie
    · obtain ⟨T, hT⟩ : ∃ T, t.length = T := ⟨_, rfl⟩
      have hw := hM.work
      rw [List.length_cons, hT] at hw hM
      obtain ⟨g2, rfl⟩ := row_head hw (by omega)
      have hcap2 := row_caps hw
      have hcy := hw.cellAt T (by omega)
      have hey : (u32s (y :: t).reverse)[T]? = some (.int .u32 (y : Int)) := by rw [List.reverse_cons, ← hT, ← List.length_reverse]; exact u32s_last _ _
      rw [hey] at hcy
      have hfu := hM.fuel
      have hbig := hM.big
      rw [List.length_cons, hT] at hfu
      obtain ⟨gk, rfl⟩ : ∃ k, gk = k + 1 := ⟨gk - 1, by omega⟩
      have hTi : (T : Int) + 1 ≤ 200000 := by omega
      have hTi0 : (0 : Int) ≤ (T : Int) := by omega
      have hxc : (T : Int) + 1 ≤ (xc : Int) := by omega
      have hxc2 : (xc : Int) ≤ 9223372036854775807 := by have := hcap2.2; unfold maxLen at this; omega
      have hni : (n : Int) ≤ 65536 := by omega
      have hni0 : (0 : Int) ≤ (n : Int) := by omega
      have hyi : y = 0 ∨ A'.σ.on y = true := hM.inv.stack y (by simp)
      have hy4 : y < 4294967296 := by
        rcases hyi with h | h
        · omega
        · have := hM.lie.ok.on y h; have := hM.lie.ok.cap2; omega
      have HREM := Lib.hid (a_remove hM.lie y hy4 (fun h => hM.inv.pos y h))
      have HMM := Lib.hid hM
      have HT := Lib.hid hT
      have HYI := Lib.hid hyi
      have HFU := Lib.hid hfu
      have HNB := Lib.hid hnb
      rw [List.length_cons, hT]
      clear hM hw hcap2 hey hfu hbig hT hyi hnb hy4
      go_wp2_with fail
      refine HREM.out.mono ?_
      rintro e w4 ⟨Fs2, ha4, hoff, hdec, hdrop⟩
      clear hcy HREM
      have hrl := HMM.out
      rw [← HT.out] at hrl
      by_cases h0 : y = 0
      · subst h0
        have ho0 : A'.σ.on 0 = false := by
          cases hq : A'.σ.on 0 with
          | false => rfl
          | true => have := HMM.out.lie.ok.on 0 hq; omega
        obtain ⟨rfl, hl4⟩ := hoff ho0
        have hmid := hrl.mid ha4 hl4
        rw [HT.out] at hmid
        have HMID := Lib.hid (hmid.below (below_al w4 (Obj.cells (nodA Nd.zero) 40)))
        clear hoff hdec hdrop hrl ha4 hl4 hmid ho0
        unfold nodA
        go_wp2_with fail
        unfold nodA at HMID
        go_roundg gk
        case measure => omega
        case rel =>
          have hr := HMM.out.run
          rw [run_pop0] at hr
          have hm := HMID.out
          rw [← HT.out] at hm ⊢
          exact ⟨n, A', t, Fs2, rfl, ⟨_, _, rfl⟩, hm.work, hm.lie, hm.alt, hm.sep, HMM.out.inv.pop0, hr, by have := HFU.out; have := HT.out; omega, by have := HMM.out.big; omega, HMM.out.few⟩
      · have hon : A'.σ.on y = true := by
          rcases HYI.out with h | h
          · exact absurd h h0
          · exact h
        by_cases hc1 : A'.cnt y = 1
        · obtain ⟨rfl, hl4⟩ := hdrop hon hc1
          have hmid := hrl.mid ha4 hl4
          rw [HT.out] at hmid
          have hal5 := below_al w4 (Obj.cells (nodA (A'.nd y)) 40)
          have HMID := Lib.hid (hmid.below hal5)
          have HX5 := Lib.hid (heap_alloc_new w4 (Obj.cells (nodA (A'.nd y)) 40))
          have HON := Lib.hid hon
          have HC1 := Lib.hid hc1
          have HY0 := Lib.hid h0
          clear hoff hdec hdrop hrl ha4 hl4 hmid hal5 hon hc1 h0
          unfold nodA
          go_upto_region 10 with fail
          rw [show #[Value.int .i64 (A'.nd y).key, .int .i64 (A'.nd y).val, .int .u32 ((A'.nd y).left : Int), .int .u32 ((A'.nd y).right : Int), .int .i64 (A'.nd y).size, .int .i64 (A'.nd y).sum, .int .i64 (A'.nd y).mn, .int .i64 (A'.nd y).mx] = nodA (A'.nd y) from rfl]
          generalize w4.alloc (Obj.cells (nodA (A'.nd y)) 40) = w5 at HMID HX5 ⊢
          generalize w4.heap.size = p5 at HX5 ⊢
          obtain ⟨_, _, z2, z3, _⟩ := row8v HX5.out
          have hal6 := below_al w5 (Obj.cells #[Value.int .u32 ((A'.nd y).right : Int), .int .u32 ((A'.nd y).left : Int)] 28)
          have hm6 := HMID.out.below hal6
          have hwk := hm6.work
          rw [HT.out] at hwk
          have hsz6 := hm6.alt.size
          have HM6 := Lib.hid hm6
          clear hal6 hm6
          go_wp2_with (at_builtin; refine wpList_append_own_at _ rfl (.tmp 40) (.tmp 45) 24 rfl w.heap.size 28 i1 (.int .u32 0) 1 4 Try.underlying24 ji jz0 jz1 jz2 rfl (by decide) _ T (u32s t.reverse) rfl hwk ⟨w5.heap.size, 0, none⟩ 2 2 [.int .u32 ((A'.nd y).right : Int), .int .u32 ((A'.nd y).left : Int)] rfl rfl (cell_new2 _ _ _ _) (one_cell2 _ _ _) (by unfold maxLen; omega) (by omega) hsz6 ?_; intro v9 w9 ho9 hg9 _ hv9)
          rw [← HT.out] at ho9
          go_roundg gk
          case measure => omega
          case rel =>
            have hm := HM6.out.push hg9 ho9 hv9
            have hr := HMM.out.run
            rw [run_popDrop gk A' t HY0.out HC1.out] at hr
            obtain ⟨va, vc, hvv⟩ := row_val ho9
            have hlt : A'.σ.free.length + 1 ≤ A'.σ.cap := by
              have h2 := (St.put_ok HMM.out.lie.ok HON.out).len
              simp [St.put] at h2
              exact h2
            have hfl : (A'.drop y).σ.free.length = A'.σ.free.length + 1 := by simp [Ar.drop, St.put]
            have hcp : (A'.drop y).σ.cap = A'.σ.cap := rfl
            refine ⟨n + 1, A'.drop y, (A'.nd y).left :: (A'.nd y).right :: t, Fs2, by go_num, ⟨va, vc, hvv⟩, hm.work, hm.lie, hm.alt, hm.sep, HMM.out.inv.popDrop HON.out HC1.out, ⟨hr.1, by have := hr.2; simp only at this; omega⟩, ?_, by have := HMM.out.big; omega, ?_⟩
            · rw [hfl, hcp]
              have := HFU.out
              have := HT.out
              simp only [List.length_cons]
              omega
            · rw [hfl, hcp]
              have := HNB.out
              omega
        · obtain ⟨rfl, hl4⟩ := hdec hon hc1
          have hmid := hrl.mid ha4 hl4
          rw [HT.out] at hmid
          have HMID := Lib.hid (hmid.below (below_al w4 (Obj.cells (nodA Nd.zero) 40)))
          have HON := Lib.hid hon
          have HC1 := Lib.hid hc1
          have HY0 := Lib.hid h0
          clear hoff hdec hdrop hrl ha4 hl4 hmid hon hc1 h0
          unfold nodA
          go_wp2_with fail
          unfold nodA at HMID
          go_roundg gk
          case measure => omega
          case rel =>
            have hr := HMM.out.run
            rw [run_popDec gk A' t HY0.out HC1.out] at hr
            have hm := HMID.out
            rw [← HT.out] at hm ⊢
            have hpos := HMM.out.inv.pos y HON.out
            have h1 := HC1.out
            exact ⟨n, A'.dec y, t, Fs2, rfl, ⟨_, _, rfl⟩, hm.work, hm.lie, hm.alt, hm.sep, HMM.out.inv.popDec HON.out (by omega), hr, by have := HFU.out; have := HT.out; show 3 * (A'.σ.cap - A'.σ.free.length) + _ ≤ _; omega, by have := HMM.out.big; omega, HMM.out.few⟩
end
end Go.Proofs.Ytkhfofpbmnapjaa
set_option linter.unusedVariables false
namespace Go.Proofs.Ytkhfofpbmnapjaa
open Go.RowKit
def celZ : Value := .agg #[.int .i64 0, .int .i64 0, .int .u32 0, .int .u32 0, .int .i64 0, .int .i64 0, .int .i64 0, .int .i64 0, .int .i64 0]
theorem celInfo : (Try.prog.info? 71).map (fun i => (i.zero, i.size, i.bytes)) = some (some celZ, 9, 64) := by kernel_rfl
theorem cels_zero (n : Nat) : (madeCells celZ.cells (n * 9)).toList = celsV (Ar.init n) := by
  refine cels_ext (by rw [Array.length_toList, size_madeCells]; rfl) fun i j hi hj => ?_
  have hi' : i < n := hi
  unfold madeCells
  simp only [Array.toList_map, Array.toList_range, List.getElem?_map, List.getElem?_range (show i * 9 + j < n * 9 by omega), Option.map_some]
  have e : (i * 9 + j) % celZ.cells.size = j := by
    show (i * 9 + j) % 9 = j
    omega
  rcases (show j = 0 ∨ j = 1 ∨ j = 2 ∨ j = 3 ∨ j = 4 ∨ j = 5 ∨ j = 6 ∨ j = 7 ∨ j = 8 by omega) with h | h | h | h | h | h | h | h | h <;> (subst h; rw [e]; rfl)
section
variable {I : Impl} {w w' wr : World} {ab : Nat} {sp : Addr} {A A' : Ar} {rd : Int} {cc g : Nat} {Fs Fs' : Nat → Prop}
set_option maxHeartbeats 1000000 in
set_option maxRecDepth 100000 in
theorem a_new_bad (I : Impl) (n : Int) (w : World) (h1 : -9223372036854775808 ≤ n) (h2 : n ≤ 9223372036854775807) (h : n < 1 ∨ 65536 < n) :
    Calls Try.prog 24 #[.int .i64 n] w (Calm w (.tuple #[.pointer none, .int .i64 1])) := by
  have HN := Lib.hid (I.new_bad n w h1 h2 h)
  clear h
  go_enter Try.func24, Try.ntmps24
  go_wp2_with fail
  refine HN.out.mono ?_
  rintro e w1 ⟨rfl, hb⟩
  have HB := Lib.hid hb
  clear hb HN
  go_wp2_with fail
  go_ret2
  exact ⟨rfl, HB.out⟩
def ANewR (I : Impl) (w : World) (n : Nat) (e : Ending) (w' : World) : Prop :=
  ∃ (ab : Nat) (sp : Addr) (g : Nat) (Fs : Nat → Prop), e = .returned (.tuple #[.pointer (some ⟨ab, 0, none⟩), .int .i64 0]) ∧ LieA I w' ab sp (Ar.init n) 0 (some ⟨g, 0, none⟩) n Fs ∧ (∀ k, FootA ab (some ⟨g, 0, none⟩) Fs k → w.heap.size ≤ k) ∧ Below w.heap.size w w'
set_option maxHeartbeats 2000000 in
set_option maxRecDepth 100000 in
theorem a_new (I : Impl) (n : Nat) (w : World) (h1 : 1 ≤ n) (h2 : n ≤ 65536) : Calls Try.prog 24 #[.int .i64 (n : Int)] w (ANewR I w n) := by
  obtain ⟨i0, hi, hz0, hz1, hz2⟩ := info_parts celInfo
  have hni : (n : Int) ≤ 65536 := by omega
  have hni1 : (1 : Int) ≤ (n : Int) := by omega
  go_enter Try.func24, Try.ntmps24
  go_wp2_with fail
  refine (I.new_ok n _ h1 h2).mono ?_
  rintro e w1 ⟨p, Fs, rfl, hs, hF, hb⟩
  obtain ⟨sp, rfl⟩ := I.ptr hs
  go_wp2_with (refine wpList_make_full _ rfl (.tmp 15) (.tmp 15) 67 rfl 0 71 i0 celZ 9 Try.underlying67 hi hz0 hz1 .i64 .i64 (n : Int) (n : Int) n rfl rfl rfl rfl (by rw [hz2]; omega) (by unfold maxLen; omega) (Nat.zero_le _) ?_; intro w2 ho2 hg2)
  go_ret2
  have hb2 : Below w1.heap.size w1 w2 := (Below.refl _ _).grown hg2 (Nat.le_refl _) (fun k hk => by cases hk)
  have hal := below_al w2 (Obj.cells #[Value.pointer (some sp), Value.slice (some ⟨w1.heap.size, 0, none⟩) n n, Value.int .u64 0] 69)
  have hs12 := hb2.size
  have hb3 := hb2.trans (hal.mono hs12)
  have hlt := (row_lt ho2 w1.heap.size rfl).2
  have hs01 := hb.size
  rw [cels_zero] at ho2
  refine ⟨w2.heap.size, sp, w1.heap.size, Fs, rfl, ⟨I.below hs hb3, heap_alloc_new w2 _, row_below ho2 hal, fun _ _ => ⟨rfl, rfl⟩, fun _ => ⟨Int.le_refl 0, show (0 : Int) ≤ 9223372036854775807 by decide⟩, fun hf => ?_, fun k hk => ?_⟩, fun k hk => ?_, hb.trans (hb3.mono hs01)⟩
  · have := I.dom hs _ hf; omega
  · simp [Value.ownBlock] at hk
    subst hk
    exact ⟨fun hf => by have := I.dom hs _ hf; omega, by omega⟩
  · rcases hk with rfl | ⟨x, hx, rfl⟩ | hk
    · omega
    · simp at hx; subst hx; exact hs01
    · exact hF k hk
end
end Go.Proofs.Ytkhfofpbmnapjaa
set_option linter.unusedVariables false
namespace Go.Proofs.Ytkhfofpbmnapjaa
open Go.RowKit
def sltZ : Value := .agg #[.bool false, .int .i64 0, .int .u32 0, .int .i64 0, .int .i64 0, .int .u32 0, .int .u32 0, .int .i64 0, .int .i64 0, .int .i64 0, .int .i64 0]
theorem sltInfo : (Try.prog.info? 75).map (fun i => (i.zero, i.size, i.bytes)) = some (some sltZ, 11, 80) := by kernel_rfl
def slp (A : Ar) (k : Nat) : List Value := (List.range' 1 k).flatMap (slotV A)
theorem slp_succ (A : Ar) (k : Nat) : slp A (k + 1) = slp A k ++ slotV A (k + 1) := by
  unfold slp
  rw [List.range'_concat, List.flatMap_append]
  simp [Nat.add_comm]
theorem newc11 (w : World) (xs : Array Value) (t : TypeId) : ∀ j u, xs.toList[j]? = some u → (w.alloc (.cells xs t)).cell? ((⟨w.heap.size, 0, none⟩ : Addr).add j) = some u := by
  intro j u hu
  have e : (⟨w.heap.size, 0, none⟩ : Addr).add j = ⟨w.heap.size, j, none⟩ := by unfold Addr.add; split <;> simp_all
  rw [e, cell_of_row _ _ _ _ _ _ (heap_alloc_new w (.cells xs t))]
  simpa using hu
theorem slotV_ones (A : Ar) (k : Nat) : ∀ u ∈ slotV A k, u.oneCell' = true := by
  intro u hu
  simp [slotV, ndV] at hu
  rcases hu with rfl | rfl | rfl | rfl | rfl | rfl | rfl | rfl | rfl | rfl | rfl <;> rfl
theorem step_append11 {P : Program} {w : World} {ops : Array Oper} {o : Oper} {a : Act} {K : Act → World → Prop} {Q : Exit → Act → World → Prop} {E : Prop} (hgd : o.guard = none) (s x : Operand) (t : TypeId)
    (ho : o.op = .call { callee := .builtin .append, args := #[s, x], argTypes := #[t, t] })
    (base : Nat) (e : TypeId) (i : TypeInfo) (z : Value) (size bytes : Nat) (ht : P.underlying t = some (.slice e)) (hi : P.info? e = some i) (hz : i.zero = some z)
    (hsize : i.size = size) (hby : i.bytes = bytes) (hzs : z.cells.size = size) (hsz : 0 < size)
    (v : Value) (n : Nat) (xs : List Value) (hs : a.eval s = v) (hown : w.ownsRow base e size v n xs)
    (ad : Addr) (m c : Nat) (news : List Value) (hx : a.eval x = .slice (some ad) m c) (hl : news.length = m * size) (hnews : ∀ j u, news[j]? = some u → w.cell? (ad.add j) = some u) (h1 : ∀ u ∈ news, u.oneCell' = true)
    (h63 : n + m ≤ maxLen) (hbytes : (n + m) * bytes ≤ 140737488355328) (hbase : base ≤ w.heap.size)
    (h : ∀ v' w', w'.ownsRow base e size v' (n + m) (xs ++ news) → w.grownBy w' v.ownBlock → K (a.put o.dst v') w') : if Region.wanted o (yielded ops a.tmps) = true then Oper.wp P o a w K Q else E := by
  have hw : Region.wanted o (yielded ops a.tmps) = true := by simp [Region.wanted, hgd]
  rw [if_pos hw]
  exact wp_append_own w s x t ho base e i z size bytes ht hi hz hsize hby hzs hsz v n xs hs hown ad m c news hx hl hnews h1 h63 hbytes hbase fun v' w' h2 h3 _ => h v' w' h2 h3
/-- the description at hand in memory, after k slots -/
structure DmpRel (A : Ar) (B : Nat) (w3 : World) (k : Nat) (x : Value) (wr : World) : Prop where
  val : ∃ a c, x = .slice a k c
  row : wr.ownsRow B 75 11 x k (slp A k)
  below : Below w3.heap.size w3 wr
def ADumpR (w : World) (A : Ar) (e : Ending) (w' : World) : Prop :=
  ∃ a c b d, e = .returned (.agg #[.slice a A.σ.cap c, .slice b A.σ.free.length d]) ∧ w'.ownsRow w.heap.size 75 11 (.slice a A.σ.cap c) A.σ.cap (slotsV A) ∧
      w'.ownsRow w.heap.size 28 1 (.slice b A.σ.free.length d) A.σ.free.length (u32s A.σ.free) ∧ Below w.heap.size w w'
theorem row9n {w : World} {g : Nat} {t : TypeId} {c0 c1 c2 c3 c4 c5 c6 c7 c8 : Value} (h : w.heap[g]? = some (.cells #[c0, c1, c2, c3, c4, c5, c6, c7, c8] t (0, 0))) :
    w.cell? ⟨g, 0, none⟩ = some c0 ∧ w.cell? ⟨g, 1, none⟩ = some c1 ∧ w.cell? ⟨g, 2, none⟩ = some c2 ∧ w.cell? ⟨g, 3, none⟩ = some c3 ∧ w.cell? ⟨g, 4, none⟩ = some c4 ∧ w.cell? ⟨g, 5, none⟩ = some c5 ∧ w.cell? ⟨g, 6, none⟩ = some c6 ∧ w.cell? ⟨g, 7, none⟩ = some c7 ∧ w.cell? ⟨g, 8, none⟩ = some c8 := by
  refine ⟨?_, ?_, ?_, ?_, ?_, ?_, ?_, ?_, ?_⟩ <;> (rw [cell_of_row _ _ _ _ _ _ h]; rfl)
/-- the nine cells of a slot, as an array -/
def celA (A : Ar) (i : Nat) : Array Value := #[.int .i64 (A.nd i).key, .int .i64 (A.nd i).val, .int .u32 ((A.nd i).left : Int), .int .u32 ((A.nd i).right : Int), .int .i64 (A.nd i).size, .int .i64 (A.nd i).sum, .int .i64 (A.nd i).mn, .int .i64 (A.nd i).mx, .int .i64 (A.cnt i)]
section
variable {I : Impl} {w w' wr : World} {ab : Nat} {sp : Addr} {A A' : Ar} {rd : Int} {cc g : Nat} {Fs Fs' : Nat → Prop}
set_option maxHeartbeats 4000000 in
set_option maxRecDepth 100000 in
theorem a_dump (h : LieA I w ab sp A rd (some ⟨g, 0, none⟩) cc Fs) : Calls Try.prog 10 #[.pointer (some ⟨ab, 0, none⟩)] w (ADumpR w A) := by
  obtain ⟨i0, hi, hz0, hz1, hz2⟩ := info_parts sltInfo
  have HU : Hid _ := Lib.hid Try.underlying32
  have hin : (Try.prog.info? 32).map (·.size) = some 2 := by kernel_rfl
  have HIN := Lib.hid hin
  have hcap := h.ok.cap2
  have hci : (A.σ.cap : Int) ≤ 65536 := by omega
  have hci0 : (0 : Int) ≤ (A.σ.cap : Int) := by omega
  have HOK := Lib.hid h.ok
  have hb1 := below_al w (Obj.cells #[Value.slice none 0 0, Value.slice none 0 0] 32)
  have h1 := h.below hb1
  have HP0 := Lib.hid (heap_alloc_new w (Obj.cells #[Value.slice none 0 0, Value.slice none 0 0] 32))
  have HB1 := Lib.hid hb1
  clear h hin hb1
  go_enter Try.func10, Try.ntmps10
  go_upto_region 1 with fail
  generalize w.alloc (Obj.cells #[Value.slice none 0 0, Value.slice none 0 0] 32) = w1 at h1 HP0 HB1 ⊢
  obtain ⟨p0, hp0⟩ : ∃ p0, w.heap.size = p0 := ⟨_, rfl⟩
  rw [hp0] at HP0 ⊢
  have HPP := Lib.hid hp0
  obtain ⟨c0, c1, c2⟩ := h1.cells
  have H1 := Lib.hid h1
  have hsz1 := HB1.out.size
  have hpl : p0 < w1.heap.size := (Array.getElem?_eq_some_iff.1 HP0.out).1
  rw [hp0] at hsz1
  have HPL := Lib.hid hpl
  clear h1 hp0 hpl
  go_upto_region 2 with (refine wpList_make_own _ rfl (.const (.int .i64 0)) (.tmp 11) 30 rfl w1.heap.size 75 i0 sltZ 11 Try.underlying30 hi hz0 hz1 .i64 .i64 (A.σ.cap : Int) A.σ.cap rfl rfl rfl (by rw [hz2]; omega) (by unfold maxLen; omega) (Nat.le_refl _) ?_; intro w2 ho2 hg2)
  have hb2 : Below w1.heap.size w1 w2 := (Below.refl _ _).grown hg2 (Nat.le_refl _) (fun k hk => by cases hk)
  have HREL : Hid (DmpRel A w1.heap.size w1 0 (.slice (some ⟨w1.heap.size, 0, none⟩) 0 A.σ.cap) w2) := ⟨⟨_, _, rfl⟩, ho2, hb2⟩
  have h2 := H1.out.below hb2
  clear c0 c1 c2 ho2 hg2 hb2 hsz1
  obtain ⟨c0, c1, c2⟩ := h2.cells
  clear h2
  go_wp2_with fail
  go_loopg [3, 18] A.σ.cap (fun gk x i wr => ∃ k, k ≤ A.σ.cap ∧ gk = A.σ.cap - k ∧ i = .int .i64 (k : Int) ∧ DmpRel A w1.heap.size w1 k x wr)
  case atStart => exact ⟨0, Nat.zero_le _, rfl, rfl, HREL.out⟩
  case round =>
    clear HREL c0 c1 c2
    obtain ⟨k, hk, hg, rfl, hR⟩ := hrel
    have HG := Lib.hid hg
    obtain ⟨xa, xc, rfl⟩ := hR.val
    have HL := Lib.hid (H1.out.below hR.below)
    have HR := Lib.hid hR
    clear hR hg
    by_cases hlt : k < A.σ.cap
    · have hki : (k : Int) < (A.σ.cap : Int) := by omega
      have hki0 : (0 : Int) ≤ (k : Int) := by omega
      obtain ⟨g0, g1, g2, g3, g4, g5, g6, g7, g8⟩ := HL.out.nine hlt
      have HLT := Lib.hid hlt
      have hal := below_al wr (Obj.cells (celA A (k + 1)) 71)
      have HX := Lib.hid (heap_alloc_new wr (Obj.cells (celA A (k + 1)) 71))
      have HL3 := Lib.hid (HL.out.below hal)
      have HR3 : Hid (DmpRel A w1.heap.size w1 k (.slice xa k xc) (wr.alloc (Obj.cells (celA A (k + 1)) 71))) := ⟨⟨_, _, rfl⟩, row_below HR.out.row hal, HR.out.below.trans (hal.mono HR.out.below.size)⟩
      clear hal hlt
      go_upto_region 5 with fail
      rw [show #[Value.int .i64 (A.nd (k + 1)).key, .int .i64 (A.nd (k + 1)).val, .int .u32 ((A.nd (k + 1)).left : Int), .int .u32 ((A.nd (k + 1)).right : Int), .int .i64 (A.nd (k + 1)).size, .int .i64 (A.nd (k + 1)).sum, .int .i64 (A.nd (k + 1)).mn, .int .i64 (A.nd (k + 1)).mx, .int .i64 (A.cnt (k + 1))] = celA A (k + 1) from rfl]
      clear g0 g1 g2 g3 g4 g5 g6 g7 g8
      generalize wr.alloc (Obj.cells (celA A (k + 1)) 71) = w3 at HX HL3 HR3 ⊢
      have HOWN : Hid (∀ b, (Value.slice xa k xc).ownBlock = some b → b < wr.heap.size) := fun b e => (row_lt HR.out.row b e).2
      generalize wr.heap.size = q at HX HOWN ⊢
      have hx := HX.out
      unfold celA at hx
      obtain ⟨g0, g1, g2, g3, g4, g5, g6, g7, g8⟩ := row9n hx
      obtain ⟨c0, c1, c2⟩ := HL3.out.cells
      have hkw : IntKind.u32.wrap ((k : Int) + 1) = (k : Int) + 1 := by rw [IntKind.wrap_u32']; omega
      have hcalls : ∀ wx : World, Below w3.heap.size w3 wx → Calls Try.prog 29 #[.pointer (some sp), .int .u32 ((k : Int) + 1)] wx (Quiet wx (.bool (A.σ.on (k + 1)))) ∧ Calls Try.prog 30 #[.pointer (some sp), .int .u32 ((k : Int) + 1)] wx (Quiet wx (.int .u32 (A.σ.gen (k + 1)))) := fun wx hb =>
        ⟨I.allocated _ _ _ (k + 1) _ (I.below HL3.out.slots hb) (by omega), I.generation _ _ _ (k + 1) _ (I.below HL3.out.slots hb) (by omega)⟩
      have HCALLS := Lib.hid hcalls
      have hrow : ∀ wx : World, Below w3.heap.size w3 wx → (wx.alloc (Obj.cells (slotV A (k + 1)).toArray 75)).ownsRow w1.heap.size 75 11 (.slice xa k xc) k (slp A k) := fun wx hb => row_below (row_below HR3.out.row hb) (below_al _ _)
      have HROW := Lib.hid hrow
      have hsz3 : w1.heap.size ≤ w3.heap.size := HR3.out.below.size
      have hafter : ∀ wx w6 : World, Below w3.heap.size w3 wx → (wx.alloc (Obj.cells (slotV A (k + 1)).toArray 75)).grownBy w6 (Value.slice xa k xc).ownBlock → Below w1.heap.size w1 w6 ∧ w6.cell? ⟨ab, 0, none⟩ = some (.pointer (some sp)) ∧ w6.cell? ⟨q, 8, none⟩ = some (.int .i64 (A.cnt (k + 1))) ∧
          w6.cell? ⟨q, 0, none⟩ = some (.int .i64 (A.nd (k + 1)).key) ∧ w6.cell? ⟨q, 1, none⟩ = some (.int .i64 (A.nd (k + 1)).val) ∧ w6.cell? ⟨q, 2, none⟩ = some (.int .u32 ((A.nd (k + 1)).left : Int)) ∧ w6.cell? ⟨q, 3, none⟩ = some (.int .u32 ((A.nd (k + 1)).right : Int)) ∧
          w6.cell? ⟨q, 4, none⟩ = some (.int .i64 (A.nd (k + 1)).size) ∧ w6.cell? ⟨q, 5, none⟩ = some (.int .i64 (A.nd (k + 1)).sum) ∧ w6.cell? ⟨q, 6, none⟩ = some (.int .i64 (A.nd (k + 1)).mn) ∧ w6.cell? ⟨q, 7, none⟩ = some (.int .i64 (A.nd (k + 1)).mx) := fun wx w6 hb hg => by
        have hb2 := trans_of' hb (below_al wx (Obj.cells (slotV A (k + 1)).toArray 75))
        have hown : ∀ b, (Value.slice xa k xc).ownBlock = some b → w1.heap.size ≤ b := fun b e => row_from HR.out.row b e
        have hb1 : Below w1.heap.size w1 (wx.alloc (Obj.cells (slotV A (k + 1)).toArray 75)) := HR3.out.below.trans (hb2.mono HR3.out.below.size)
        have hb6 := hb1.grown hg hb1.size hown
        have hc := (H1.out.below hb6).cells.1
        have hql : q < w3.heap.size := (Array.getElem?_eq_some_iff.1 HX.out).1
        have hq := (hg.block q (Nat.lt_of_lt_of_le hql hb2.size) (fun e => by have := HOWN.out q e.symm; omega)).trans ((hb2.block q hql).trans HX.out)
        unfold celA at hq
        obtain ⟨k0, k1, k2, k3, k4, k5, k6, k7, k8⟩ := row9n hq
        exact ⟨hb6, hc, k8, k0, k1, k2, k3, k4, k5, k6, k7⟩
      have HAFTER := Lib.hid hafter
      clear hx hcalls hrow hafter
      go_upto_region 6 with fail
      go_region_held3 (fun w' => w'.cell? ⟨ab, 0, none⟩ = some (.pointer (some sp)) ∧ w'.cell? ⟨q, 8, none⟩ = some (.int .i64 (A.cnt (k + 1))) ∧
        w'.cell? ⟨q, 0, none⟩ = some (.int .i64 (A.nd (k + 1)).key) ∧ w'.cell? ⟨q, 1, none⟩ = some (.int .i64 (A.nd (k + 1)).val) ∧ w'.cell? ⟨q, 2, none⟩ = some (.int .u32 ((A.nd (k + 1)).left : Int)) ∧ w'.cell? ⟨q, 3, none⟩ = some (.int .u32 ((A.nd (k + 1)).right : Int)) ∧
        w'.cell? ⟨q, 4, none⟩ = some (.int .i64 (A.nd (k + 1)).size) ∧ w'.cell? ⟨q, 5, none⟩ = some (.int .i64 (A.nd (k + 1)).sum) ∧ w'.cell? ⟨q, 6, none⟩ = some (.int .i64 (A.nd (k + 1)).mn) ∧ w'.cell? ⟨q, 7, none⟩ = some (.int .i64 (A.nd (k + 1)).mx)) (go_keep) (first
        | (go_at_call 29; refine (HCALLS.out _ (by exact ⟨rfl, rfl, rfl, Nat.le_refl _, fun _ _ => rfl⟩)).1.mono ?_; rintro e wx ⟨rfl, da, rfl⟩)
        | (go_at_call 30; refine (HCALLS.out _ (by exact ⟨rfl, rfl, rfl, Nat.le_refl _, fun _ _ => rfl⟩)).2.mono ?_; rintro e wx ⟨rfl, db, rfl⟩)
        | (refine step_append11 rfl (.tmp 26) (.tmp 44) 30 rfl w1.heap.size 75 i0 sltZ 11 80 Try.underlying30 hi hz0 hz1 hz2 rfl (by decide) _ k (slp A k) rfl (HROW.out _ (by exact ⟨rfl, rfl, rfl, Nat.le_refl _, fun _ _ => rfl⟩)) _ 1 1 (slotV A (k + 1)) rfl rfl (newc11 _ _ _) (slotV_ones A _) (by unfold maxLen; omega) (by omega) (by simp; omega) ?_; intro v6 w6 ho6 hg6; obtain ⟨va, vc, rfl⟩ := row_val ho6; obtain ⟨hb6, s0, s1, s2, s3, s4, s5, s6, s7, s8, s9⟩ := HAFTER.out _ w6 (by exact ⟨rfl, rfl, rfl, Nat.le_refl _, fun _ _ => rfl⟩) hg6))
      all_goals
        have HREL : Hid (DmpRel A w1.heap.size w1 (k + 1) (.slice va (k + 1) vc) w6) := ⟨⟨_, _, rfl⟩, by rw [slp_succ]; exact ho6, hb6⟩
        clear ho6 hg6 hb6 s0 s1 s2 s3 s4 s5 s6 s7 s8 s9 c0 c1 c2 g0 g1 g2 g3 g4 g5 g6 g7 g8
        go_wp2_with fail
        go_roundg (A.σ.cap - (k + 1))
        case measure => have := HG.out; have := HLT.out; omega
        case rel => exact ⟨k + 1, by have := HLT.out; omega, rfl, by go_num, HREL.out⟩
    · have hkc : k = A.σ.cap := by omega
      have hkci : ¬ (k : Int) < (A.σ.cap : Int) := by omega
      have HKC := Lib.hid hkc
      clear hkc hlt
      obtain ⟨c0, c1, c2⟩ := HL.out.cells
      go_wp2_with fail
      refine (I.order _ _ _ _ HL.out.slots).mono ?_
      rintro e w4 ⟨b, dd, rfl, hfr, hb4⟩
      have HFR := Lib.hid hfr
      have HR4 : Hid (DmpRel A w1.heap.size w1 k (.slice xa k xc) w4) := ⟨⟨_, _, rfl⟩, row_below HR.out.row hb4, HR.out.below.trans (hb4.mono HR.out.below.size)⟩
      have HP : Hid (w4.heap[p0]? = some (Obj.cells #[Value.slice none 0 0, Value.slice none 0 0] 32 (0, 0))) := (HR4.out.below.block p0 HPL.out).trans HP0.out
      have hs14 := HR.out.below.size
      clear c0 c1 c2 hfr hb4
      go_wp2_with (refine wpList_store_row rfl 32 (.tmp 2) (.tmp 53) rfl p0 #[.slice xa k xc, .slice b A.σ.free.length dd] rfl rfl 32 _ HP.out HIN.out rfl (by simp [Value.oneCell']) ?_)
      refine bodyPost_ret (v := .agg #[.slice xa k xc, .slice b A.σ.free.length dd]) (results_cell_row rfl _ _ p0 32 _ (0, 0) _ rfl (setRow_heap _ _ _ _ _ _ HP.out) HU.out rfl HIN.out) rfl ?_
      have hrow := HR4.out.row
      rw [HKC.out] at hrow ⊢
      have hpp := HPP.out
      have hpl := HPL.out
      have hbb := HB1.out.trans (HR4.out.below.mono HB1.out.size)
      refine ⟨xa, xc, b, dd, rfl, ?_, ?_, below_row hbb (by omega)⟩
      · refine row_mono (row_keep hrow fun j hj => setRow_other _ _ _ _ ?_) HB1.out.size
        have := row_from hrow j hj; omega
      · refine row_mono (row_keep HFR.out fun j hj => setRow_other _ _ _ _ ?_) (by omega)
        have := row_from HFR.out j hj; omega
end
end Go.Proofs.Ytkhfofpbmnapjaa
set_option linter.unusedVariables false
namespace Go.Proofs.Ytkhfofpbmnapjaa
open Go.RowKit
def IsA (I : Impl) (w : World) (p : Value) (A : Ar) (rd : Int) (F : Nat → Prop) : Prop :=
  ∃ (ab : Nat) (sp : Addr) (g cc : Nat) (Fs : Nat → Prop), p = .pointer (some ⟨ab, 0, none⟩) ∧ LieA I w ab sp A rd (some ⟨g, 0, none⟩) cc Fs ∧ ∀ k, F k ↔ FootA ab (some ⟨g, 0, none⟩) Fs k
def arenaImpl : AImpl where
  Is := IsA slotsImpl
  dom := fun h k hk => by
    obtain ⟨ab, sp, g, cc, Fs, rfl, hl, hF⟩ := h
    exact hl.dom k ((hF k).1 hk)
  keep := fun h hk => by
    obtain ⟨ab, sp, g, cc, Fs, rfl, hl, hF⟩ := h
    exact ⟨ab, sp, g, cc, Fs, rfl, hl.keep fun k h1 => hk k ((hF k).2 h1), hF⟩
  ok := fun h => by
    obtain ⟨ab, sp, g, cc, Fs, rfl, hl, hF⟩ := h
    exact hl.ok
  ptr := fun h => by
    obtain ⟨ab, sp, g, cc, Fs, rfl, hl, hF⟩ := h
    exact ⟨_, rfl⟩
  new_ok := fun n w h1 h2 => (a_new slotsImpl n w h1 h2).mono fun e w1 ⟨ab, sp, g, Fs, he, hl, hf, hb⟩ => ⟨_, FootA ab (some ⟨g, 0, none⟩) Fs, he, ⟨ab, sp, g, n, Fs, rfl, hl, fun k => Iff.rfl⟩, hf, hb⟩
  new_bad := a_new_bad slotsImpl
  make := fun p A rd F key val l r held w h hi ha hm h1 h2 h3 h4 h5 h6 => by
    obtain ⟨ab, sp, g, cc, Fs, rfl, hl, hF⟩ := h
    obtain rfl : F = FootA ab (some ⟨g, 0, none⟩) Fs := funext fun k => propext (hF k)
    refine (a_make hl ha key val l r h5 h6 h3 h4 (fun i hon => cnt_le hi hm hon)).mono ?_
    rintro e w1 ⟨Fs', hal, g1, g2, g3⟩
    refine ⟨FootA ab (some ⟨g, 0, none⟩) Fs', hal, fun hh => ?_, fun hh hf => ?_, fun hh i t hf => ?_⟩
    · exact ⟨(g1 hh).1, ab, sp, g, cc, Fs', rfl, (g1 hh).2, fun k => Iff.rfl⟩
    · exact ⟨(g2 hh hf).1, ab, sp, g, cc, Fs', rfl, (g2 hh hf).2, fun k => Iff.rfl⟩
    · exact ⟨(g3 hh i t hf).1, ab, sp, g, cc, Fs', rfl, (g3 hh i t hf).2, fun k => Iff.rfl⟩
  node := fun p A rd F i w h h0 h1 hi => by
    obtain ⟨ab, sp, g, cc, Fs, rfl, hl, hF⟩ := h
    obtain rfl : F = FootA ab (some ⟨g, 0, none⟩) Fs := funext fun k => propext (hF k)
    refine (a_node hl i hi h0 h1).mono ?_
    rintro e w1 ⟨rfl, h2, hal⟩
    refine ⟨FootA ab (some ⟨g, 0, none⟩) Fs, hal, fun ho => ?_, fun ho => ?_⟩
    · rw [ho, if_neg (by simp)] at h2
      exact ⟨by rw [ho, (hl.off i ho).2]; rfl, ab, sp, g, cc, Fs, rfl, h2, fun k => Iff.rfl⟩
    · rw [if_pos ho] at h2
      exact ⟨by rw [ho]; rfl, ab, sp, g, cc, Fs, rfl, h2, fun k => Iff.rfl⟩
  release := fun p A rd F i held w h hi hinv => by
    obtain ⟨ab, sp, g, cc, Fs, rfl, hl, hF⟩ := h
    obtain rfl : F = FootA ab (some ⟨g, 0, none⟩) Fs := funext fun k => propext (hF k)
    by_cases hx : A.Idx i
    · refine (a_release hl i hi hx (hinv hx)).mono ?_
      rintro e w1 ⟨Fs', hal, rfl, h2⟩
      exact ⟨FootA ab (some ⟨g, 0, none⟩) Fs', hal, fun h => absurd hx h, fun _ => ⟨rfl, ab, sp, g, cc, Fs', rfl, h2, fun k => Iff.rfl⟩⟩
    · refine (a_release_bad hl i hi hx).mono ?_
      rintro e w1 ⟨rfl, hb⟩
      exact ⟨FootA ab (some ⟨g, 0, none⟩) Fs, .of_below hb, fun _ => ⟨rfl, ab, sp, g, cc, Fs, rfl, hl.below hb, fun k => Iff.rfl⟩, fun h => absurd h hx⟩
  freeN := fun p A rd F w h => by
    obtain ⟨ab, sp, g, cc, Fs, rfl, hl, hF⟩ := h
    exact a_free hl
  dump := fun p A rd F w h => by
    obtain ⟨ab, sp, g, cc, Fs, rfl, hl, hF⟩ := h
    exact a_dump hl
end Go.Proofs.Ytkhfofpbmnapjaa
