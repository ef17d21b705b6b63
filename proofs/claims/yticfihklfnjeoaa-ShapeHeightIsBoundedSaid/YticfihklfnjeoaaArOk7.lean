/- The program's arena: Release. -/
import Derived.Test.YticfihklfnjeoaaArOk6
import Derived.Test.YticfihklfnjeoaaDumpD
import Derived.Maps.AppendAt
set_option linter.unusedVariables false
namespace Go.Proofs.Yticfihklfnjeoaa
open Go.RowKit
theorem run_pop0 (f : Nat) (A : Ar) (t : List Nat) : Ar.run (f + 1) A (0 :: t) = Ar.run f A t := by
  conv => lhs; unfold Ar.run
  rw [if_pos rfl]
theorem run_popDec (f : Nat) (A : Ar) {i : Nat} (t : List Nat) (h0 : i ≠ 0) (hc : A.cnt i ≠ 1) : Ar.run (f + 1) A (i :: t) = Ar.run f (A.dec i) t := by
  conv => lhs; unfold Ar.run
  rw [if_neg h0, if_neg hc]
theorem run_popDrop (f : Nat) (A : Ar) {i : Nat} (t : List Nat) (h0 : i ≠ 0) (hc : A.cnt i = 1) : Ar.run (f + 1) A (i :: t) = ((Ar.run f (A.drop i) ((A.nd i).left :: (A.nd i).right :: t)).1, (Ar.run f (A.drop i) ((A.nd i).left :: (A.nd i).right :: t)).2 + 1) := by
  conv => lhs; unfold Ar.run
  rw [if_neg h0, if_pos hc]
theorem run_nil (f : Nat) (A : Ar) : Ar.run f A [] = (A, 0) := by cases f <;> rfl
/-- the cascade at hand in memory: A' is the arena, s the stack, n slots have become free -/
structure RelR (I : Impl) (w : World) (ab : Nat) (sp : Addr) (A : Ar) (rd : Int) (g cc : Nat) (Fs : Nat → Prop) (held : Nat → Nat) (i k : Nat) (n : Nat) (x : Value) (A' : Ar) (s : List Nat) (Fs' : Nat → Prop) (wr : World) : Prop where
  val : ∃ a c, x = .slice a s.length c
  work : wr.ownsRow w.heap.size 30 1 x s.length (u32s s.reverse)
  lie : LieA I wr ab sp A' rd (some ⟨g, 0, none⟩) cc Fs'
  alt : Alters (FootA ab (some ⟨g, 0, none⟩) Fs) (FootA ab (some ⟨g, 0, none⟩) Fs') w wr
  sep : ∀ b, x.ownBlock = some b → ¬ FootA ab (some ⟨g, 0, none⟩) Fs' b
  inv : A'.Inv s held
  run : (Ar.run k A' s).1 = A.gone i ∧ (Ar.run k A' s).2 + n = A.freed i
  fuel : 3 * (A'.σ.cap - A'.σ.free.length) + s.length ≤ k
  big : k ≤ 200000
  few : n + (A'.σ.cap - A'.σ.free.length) ≤ 65536
section
variable {I : Impl} {w w' wr : World} {ab : Nat} {sp : Addr} {A A' : Ar} {rd : Int} {cc g : Nat} {Fs Fs' Fs2 : Nat → Prop} {held : Nat → Nat} {i k n : Nat} {x v : Value} {s t : List Nat}
theorem RelR.below (h : RelR I w ab sp A rd g cc Fs held i k n x A' s Fs' wr) (hb : Below wr.heap.size wr w') : RelR I w ab sp A rd g cc Fs held i k n x A' s Fs' w' :=
  ⟨h.val, row_below h.work hb, h.lie.below hb, h.alt.trans (.of_below hb), h.sep, h.inv, h.run, h.fuel, h.big, h.few⟩
/-- what lies in memory behind the pop and the removal -/
structure MidR (I : Impl) (w : World) (ab : Nat) (sp : Addr) (rd : Int) (g cc : Nat) (Fs : Nat → Prop) (x : Value) (A' : Ar) (t : List Nat) (Fs' : Nat → Prop) (wr : World) : Prop where
  work : wr.ownsRow w.heap.size 30 1 x t.length (u32s t.reverse)
  lie : LieA I wr ab sp A' rd (some ⟨g, 0, none⟩) cc Fs'
  alt : Alters (FootA ab (some ⟨g, 0, none⟩) Fs) (FootA ab (some ⟨g, 0, none⟩) Fs') w wr
  sep : ∀ b, x.ownBlock = some b → ¬ FootA ab (some ⟨g, 0, none⟩) Fs' b
theorem MidR.below (h : MidR I w ab sp rd g cc Fs x A' t Fs' wr) (hb : Below wr.heap.size wr w') : MidR I w ab sp rd g cc Fs x A' t Fs' w' :=
  ⟨row_below h.work hb, h.lie.below hb, h.alt.trans (.of_below hb), h.sep⟩
theorem RelR.mid {y : Nat} {a : Addr} {c : Nat} {B : Ar} (h : RelR I w ab sp A rd g cc Fs held i k n (.slice (some a) (t.length + 1) c) A' (y :: t) Fs' wr) (ha : Alters (FootA ab (some ⟨g, 0, none⟩) Fs') (FootA ab (some ⟨g, 0, none⟩) Fs2) wr w') (hl : LieA I w' ab sp B rd (some ⟨g, 0, none⟩) cc Fs2) :
    MidR I w ab sp rd g cc Fs (.slice (some a) t.length c) B t Fs2 w' := by
  have hw := h.work
  rw [List.length_cons] at hw
  obtain ⟨g2, hg2⟩ := row_head hw (by omega)
  rw [hg2] at hw ⊢
  have h1 := row_cut hw (m := t.length) (by omega)
  have e : (u32s (y :: t).reverse).take t.length = u32s t.reverse := by
    rw [List.reverse_cons, u32s_app]
    exact List.take_left' (by simp [u32s])
  rw [e] at h1
  have hs : ∀ b, (Value.slice (some (⟨g2, 0, none⟩ : Addr)) t.length c).ownBlock = some b → ¬ FootA ab (some ⟨g, 0, none⟩) Fs' b := fun b hb => h.sep b (by rw [hg2]; exact hb)
  have h2 := ha.apart (G := fun b => (Value.slice (some (⟨g2, 0, none⟩ : Addr)) t.length c).ownBlock = some b) fun b hb => ⟨(row_lt h1 b hb).2, hs b hb⟩
  exact ⟨ha.row h1 hs, hl, h.alt.trans ha, fun b hb => (h2 b hb).2⟩
/-- the children are pushed -/
theorem MidR.push {l r : Nat} (h : MidR I w ab sp rd g cc Fs x A' t Fs' wr) (hg : wr.grownBy w' x.ownBlock) (hr : w'.ownsRow w.heap.size 30 1 v (t.length + 2) (u32s t.reverse ++ [.int .u32 (r : Int), .int .u32 (l : Int)]))
    (hv : v.ownBlock = x.ownBlock ∨ v.ownBlock = some wr.heap.size) : MidR I w ab sp rd g cc Fs v A' (l :: r :: t) Fs' w' := by
  refine ⟨?_, h.lie.keep fun b hb => hg.block b (h.lie.dom b hb) fun e => h.sep b e.symm hb, ⟨hg.os.trans h.alt.os, hg.tape.trans h.alt.tape, hg.output.trans h.alt.output, Nat.le_trans h.alt.size hg.size, fun b hb hF => (hg.block b (Nat.lt_of_lt_of_le hb h.alt.size) fun e => ?_).trans (h.alt.block b hb hF), h.alt.foot⟩, fun b hb hF => ?_⟩
  · rw [show (l :: r :: t).reverse = t.reverse ++ [r, l] by simp, u32s_app]
    exact hr
  · have := row_from h.work b e.symm; omega
  · rcases hv with e | e
    · exact h.sep b (e ▸ hb) hF
    · rw [e] at hb; simp at hb; have := h.lie.dom b hF; omega
set_option maxHeartbeats 1000000 in
set_option maxRecDepth 100000 in
theorem a_release_bad (h : LieA I w ab sp A rd (some ⟨g, 0, none⟩) cc Fs) (i : Nat) (hi : i < 4294967296) (hb : ¬ A.Idx i) :
    Calls Try.prog 51 #[.pointer (some ⟨ab, 0, none⟩), .int .u32 (i : Int)] w (Calm w (.tuple #[.int .i64 0, .int .i64 3])) := by
  have hx : (decide (i = 0) || A.σ.on i) = false := by
    unfold Ar.Idx at hb
    have h1 : ¬ i = 0 := fun e => hb (.inl e)
    have h2 : ¬ A.σ.on i = true := fun e => hb (.inr e)
    simp [h1, h2]
  have HI := Lib.hid (a_isIndex h i hi)
  have HX := Lib.hid hx
  clear h hb hx
  go_enter Try.func51, Try.ntmps51
  go_wp2_with fail
  refine HI.out.mono ?_
  rintro e w2 ⟨rfl, q, rfl⟩
  rw [HX.out]
  clear HI HX
  go_wp2_with fail
  go_ret2
  exact ⟨rfl, below_drewN (Below.refl _ _) _⟩
def ARel (I : Impl) (w : World) (ab : Nat) (sp : Addr) (A : Ar) (rd : Int) (g cc : Nat) (Fs : Nat → Prop) (i : Nat) (e : Ending) (w' : World) : Prop :=
  ∃ Fs', Alters (FootA ab (some ⟨g, 0, none⟩) Fs) (FootA ab (some ⟨g, 0, none⟩) Fs') w w' ∧ e = .returned (.tuple #[.int .i64 (A.freed i : Int), .int .i64 0]) ∧ LieA I w' ab sp (A.gone i) rd (some ⟨g, 0, none⟩) cc Fs'
theorem u32InfoA : (Try.prog.info? 30).map (fun i => (i.zero, i.size, i.bytes)) = some (some (.int .u32 0), 1, 4) := by kernel_rfl
set_option maxHeartbeats 4000000 in
set_option maxRecDepth 100000 in
theorem a_release (h : LieA I w ab sp A rd (some ⟨g, 0, none⟩) cc Fs) (i : Nat) (hi : i < 4294967296) (hb : A.Idx i) (hinv : A.Inv [i] held) :
    Calls Try.prog 51 #[.pointer (some ⟨ab, 0, none⟩), .int .u32 (i : Int)] w (ARel I w ab sp A rd g cc Fs i) := by
  obtain ⟨i1, ji, jz0, jz1, jz2⟩ := info_parts u32InfoA
  have hx : (decide (i = 0) || A.σ.on i) = true := by
    rcases hb with e | e
    · simp [e]
    · simp [e]
  have HI := Lib.hid (a_isIndex h i hi)
  have HX := Lib.hid hx
  have HH := Lib.hid h
  have HINV := Lib.hid hinv
  clear h hx hb hinv
  go_enter Try.func51, Try.ntmps51
  go_wp2_with fail
  refine HI.out.mono ?_
  rintro e w1 ⟨rfl, q, rfl⟩
  rw [HX.out]
  have hb1 : Below w.heap.size w (w.drewN q) := below_drewN (Below.refl _ _) q
  generalize w.drewN q = w1 at hb1 ⊢
  have h1 := HH.out.below hb1
  have hal := below_al w1 (Obj.cells #[Value.int .u32 (i : Int)] 30)
  have hrow := World.ownsRow_lit (base := w.heap.size) (e := 30) (size := 1) w1 #[Value.int .u32 (i : Int)] 1 hb1.size (by decide) rfl
  have hlen := HINV.out.ok.len
  have hcap := HINV.out.ok.cap2
  have HM : Hid (RelR I w ab sp A rd g cc Fs held i A.fuel 0 (.slice (some ⟨w1.heap.size, 0, none⟩) 1 1) A [i] Fs (w1.alloc (Obj.cells #[Value.int .u32 (i : Int)] 30))) := by
    refine ⟨⟨_, _, rfl⟩, hrow, h1.below hal, .of_below (trans_of' hb1 hal), fun b hb hF => ?_, HINV.out, ⟨rfl, rfl⟩, ?_, ?_, by omega⟩
    · simp [Value.ownBlock] at hb
      have := h1.dom b hF
      omega
    · unfold Ar.fuel; simp; omega
    · unfold Ar.fuel; omega
  clear h1 hal hrow hlen hcap hb1 HI HX
  go_wp2_with fail
  go_loopg [6, 7] A.fuel (fun gk fr x wr => ∃ n A' s Fs', fr = .int .i64 ((n : Nat) : Int) ∧ RelR I w ab sp A rd g cc Fs held i gk n x A' s Fs' wr)
  case atStart => exact ⟨0, _, _, _, rfl, HM.out⟩
  case round =>
    clear HM
    obtain ⟨n, A', s, Fs', rfl, hM⟩ := hrel
    obtain ⟨xa, xc, rfl⟩ := hM.val
    have hnb := hM.few
    rcases (show s = [] ∨ ∃ y t, s = y :: t by cases s with | nil => exact .inl rfl | cons y t => exact .inr ⟨y, t, rfl⟩) with rfl | ⟨y, t, rfl⟩
    · have HMM := Lib.hid hM
      clear hM hnb
      rw [show ([] : List Nat).length = 0 from rfl]
      go_wp2_with fail
      go_ret2
      have hr := HMM.out.run
      rw [run_nil] at hr
      refine ⟨Fs', HMM.out.alt, by rw [← hr.2]; simp, ?_⟩
      rw [← hr.1]
      exact HMM.out.lie
    · obtain ⟨T, hT⟩ : ∃ T, t.length = T := ⟨_, rfl⟩
      have hw := hM.work
      rw [List.length_cons, hT] at hw hM
      obtain ⟨g2, rfl⟩ := row_head hw (by omega)
      have hcap2 := row_caps hw
      have hcy := hw.cellAt T (by omega)
      have hey : (u32s (y :: t).reverse)[T]? = some (.int .u32 (y : Int)) := by rw [List.reverse_cons, ← hT, ← List.length_reverse]; exact u32s_last _ _
      rw [hey] at hcy
      have hfu := hM.fuel
      have hbig := hM.big
      rw [List.length_cons, hT] at hfu
      obtain ⟨gk, rfl⟩ : ∃ k, gk = k + 1 := ⟨gk - 1, by omega⟩
      have hTi : (T : Int) + 1 ≤ 200000 := by omega
      have hTi0 : (0 : Int) ≤ (T : Int) := by omega
      have hxc : (T : Int) + 1 ≤ (xc : Int) := by omega
      have hxc2 : (xc : Int) ≤ 9223372036854775807 := by have := hcap2.2; unfold maxLen at this; omega
      have hni : (n : Int) ≤ 65536 := by omega
      have hni0 : (0 : Int) ≤ (n : Int) := by omega
      have hyi : y = 0 ∨ A'.σ.on y = true := hM.inv.stack y (by simp)
      have hy4 : y < 4294967296 := by
        rcases hyi with h | h
        · omega
        · have := hM.lie.ok.on y h; have := hM.lie.ok.cap2; omega
      have HREM := Lib.hid (a_remove hM.lie y hy4 (fun h => hM.inv.pos y h))
      have HMM := Lib.hid hM
      have HT := Lib.hid hT
      have HYI := Lib.hid hyi
      have HFU := Lib.hid hfu
      have HNB := Lib.hid hnb
      rw [List.length_cons, hT]
      clear hM hw hcap2 hey hfu hbig hT hyi hnb hy4
      go_wp2_with fail
      refine HREM.out.mono ?_
      rintro e w4 ⟨Fs2, ha4, hoff, hdec, hdrop⟩
      clear hcy HREM
      have hrl := HMM.out
      rw [← HT.out] at hrl
      by_cases h0 : y = 0
      · subst h0
        have ho0 : A'.σ.on 0 = false := by
          cases hq : A'.σ.on 0 with
          | false => rfl
          | true => have := HMM.out.lie.ok.on 0 hq; omega
        obtain ⟨rfl, hl4⟩ := hoff ho0
        have hmid := hrl.mid ha4 hl4
        rw [HT.out] at hmid
        have HMID := Lib.hid (hmid.below (below_al w4 (Obj.cells (nodA Nd.zero) 47)))
        clear hoff hdec hdrop hrl ha4 hl4 hmid ho0
        unfold nodA
        go_wp2_with fail
        unfold nodA at HMID
        go_roundg gk
        case measure => omega
        case rel =>
          have hr := HMM.out.run
          rw [run_pop0] at hr
          have hm := HMID.out
          rw [← HT.out] at hm ⊢
          exact ⟨n, A', t, Fs2, rfl, ⟨_, _, rfl⟩, hm.work, hm.lie, hm.alt, hm.sep, HMM.out.inv.pop0, hr, by have := HFU.out; have := HT.out; omega, by have := HMM.out.big; omega, HMM.out.few⟩
      · have hon : A'.σ.on y = true := by
          rcases HYI.out with h | h
          · exact absurd h h0
          · exact h
        by_cases hc1 : A'.cnt y = 1
        · obtain ⟨rfl, hl4⟩ := hdrop hon hc1
          have hmid := hrl.mid ha4 hl4
          rw [HT.out] at hmid
          have hal5 := below_al w4 (Obj.cells (nodA (A'.nd y)) 47)
          have HMID := Lib.hid (hmid.below hal5)
          have HX5 := Lib.hid (heap_alloc_new w4 (Obj.cells (nodA (A'.nd y)) 47))
          have HON := Lib.hid hon
          have HC1 := Lib.hid hc1
          have HY0 := Lib.hid h0
          clear hoff hdec hdrop hrl ha4 hl4 hmid hal5 hon hc1 h0
          unfold nodA
          go_upto_region 10 with fail
          rw [show #[Value.int .i64 (A'.nd y).key, .int .i64 (A'.nd y).val, .int .u32 ((A'.nd y).left : Int), .int .u32 ((A'.nd y).right : Int), .int .i64 (A'.nd y).size, .int .i64 (A'.nd y).sum, .int .i64 (A'.nd y).mn, .int .i64 (A'.nd y).mx] = nodA (A'.nd y) from rfl]
          generalize w4.alloc (Obj.cells (nodA (A'.nd y)) 47) = w5 at HMID HX5 ⊢
          generalize w4.heap.size = p5 at HX5 ⊢
          obtain ⟨_, _, z2, z3, _⟩ := row8v HX5.out
          have hal6 := below_al w5 (Obj.cells #[Value.int .u32 ((A'.nd y).right : Int), .int .u32 ((A'.nd y).left : Int)] 30)
          have hm6 := HMID.out.below hal6
          have hwk := hm6.work
          rw [HT.out] at hwk
          have hsz6 := hm6.alt.size
          have HM6 := Lib.hid hm6
          clear hal6 hm6
          go_wp2_with (at_builtin; refine wpList_append_own_at _ rfl (.tmp 40) (.tmp 45) 32 rfl w.heap.size 30 i1 (.int .u32 0) 1 4 Try.underlying32 ji jz0 jz1 jz2 rfl (by decide) _ T (u32s t.reverse) rfl hwk ⟨w5.heap.size, 0, none⟩ 2 2 [.int .u32 ((A'.nd y).right : Int), .int .u32 ((A'.nd y).left : Int)] rfl rfl (cell_new2 _ _ _ _) (one_cell2 _ _ _) (by unfold maxLen; omega) (by omega) hsz6 ?_; intro v9 w9 ho9 hg9 _ hv9)
          rw [← HT.out] at ho9
          go_roundg gk
          case measure => omega
          case rel =>
            have hm := HM6.out.push hg9 ho9 hv9
            have hr := HMM.out.run
            rw [run_popDrop gk A' t HY0.out HC1.out] at hr
            obtain ⟨va, vc, hvv⟩ := row_val ho9
            have hlt : A'.σ.free.length + 1 ≤ A'.σ.cap := by
              have h2 := (St.put_ok HMM.out.lie.ok HON.out).len
              simp [St.put] at h2
              exact h2
            have hfl : (A'.drop y).σ.free.length = A'.σ.free.length + 1 := by simp [Ar.drop, St.put]
            have hcp : (A'.drop y).σ.cap = A'.σ.cap := rfl
            refine ⟨n + 1, A'.drop y, (A'.nd y).left :: (A'.nd y).right :: t, Fs2, by go_num, ⟨va, vc, hvv⟩, hm.work, hm.lie, hm.alt, hm.sep, HMM.out.inv.popDrop HON.out HC1.out, ⟨hr.1, by have := hr.2; simp only at this; omega⟩, ?_, by have := HMM.out.big; omega, ?_⟩
            · rw [hfl, hcp]
              have := HFU.out
              have := HT.out
              simp only [List.length_cons]
              omega
            · rw [hfl, hcp]
              have := HNB.out
              omega
        · obtain ⟨rfl, hl4⟩ := hdec hon hc1
          have hmid := hrl.mid ha4 hl4
          rw [HT.out] at hmid
          have HMID := Lib.hid (hmid.below (below_al w4 (Obj.cells (nodA Nd.zero) 47)))
          have HON := Lib.hid hon
          have HC1 := Lib.hid hc1
          have HY0 := Lib.hid h0
          clear hoff hdec hdrop hrl ha4 hl4 hmid hon hc1 h0
          unfold nodA
          go_wp2_with fail
          unfold nodA at HMID
          go_roundg gk
          case measure => omega
          case rel =>
            have hr := HMM.out.run
            rw [run_popDec gk A' t HY0.out HC1.out] at hr
            have hm := HMID.out
            rw [← HT.out] at hm ⊢
            have hpos := HMM.out.inv.pos y HON.out
            have h1 := HC1.out
            exact ⟨n, A'.dec y, t, Fs2, rfl, ⟨_, _, rfl⟩, hm.work, hm.lie, hm.alt, hm.sep, HMM.out.inv.popDec HON.out (by omega), hr, by have := HFU.out; have := HT.out; show 3 * (A'.σ.cap - A'.σ.free.length) + _ ≤ _; omega, by have := HMM.out.big; omega, HMM.out.few⟩
end
end Go.Proofs.Yticfihklfnjeoaa
