/- The reference's Open of a table of handles. -/
import Derived.Test.YtnikbnbmbifcjaaRefHand5
import Derived.Deep.CutRange
set_option linter.unusedVariables false
namespace Go.Proofs.Ytnikbnbmbifcjaa
open Go.RowKit
theorem row_not {w : World} {B n p : Nat} {e t : TypeId} {v : Value} {xs : List Value} {cs : Array Value} (h : w.ownsRow B e 1 v n xs) (hp : w.heap[p]? = some (.cells cs t (0, 0))) (hne : e ≠ t) : v.ownBlock ≠ some p := by
  intro e2
  rcases h.2 with ⟨rfl, _⟩ | ⟨g, cap, cur, rfl, _, hc, _⟩
  · simp [Value.ownBlock] at e2
  · simp only [Value.ownBlock, Option.some.injEq] at e2
    subst e2
    rw [hc] at hp
    simp at hp
    exact hne hp.2
theorem RefAt.lt {B : Nat} {G : Nat → Prop} {w : World} {σ : St} {st : List Nat} {fr : Nat} {sa ga oa : Option Addr} {sc gc oc : Nat} (h : RefAt B G w σ st fr sa ga oa sc gc oc) : RefAt B (fun k => G k ∧ k < w.heap.size) w σ st fr sa ga oa sc gc oc :=
  ⟨h.free, h.fr1, h.fr2, h.stack, h.gen, h.on, fun k hk => ⟨h.inS k hk, (row_lt h.stack k hk).2⟩, fun k hk => ⟨h.inG k hk, (row_lt h.gen k hk).2⟩, fun k hk => ⟨h.inO k hk, (row_lt h.on k hk).2⟩⟩
section
variable {B : Nat} {G G' : Nat → Prop} {w w' : World} {σ : St} {u : Nat → Int} {r : RL}
set_option maxHeartbeats 2000000 in
set_option maxRecDepth 100000 in
theorem rt_open_full (h : RefTab B G w σ u r) (x : Int) (hf : σ.free = []) :
    Calls Try.prog 21 #[.agg (refT σ r), .int .u32 x] w (fun e w' => e = .returned (.tuple #[.agg (refT σ r), .int .u64 0, .int .i64 2]) ∧ Below w.heap.size w w') := by
  have HU := Lib.hid Try.underlying40
  have hin : (Try.prog.info? 40).map (·.size) = some 6 := by kernel_rfl
  have HI := Lib.hid hin
  have hM := MidT.new w (refT σ r) #[Value.int .i64 0, .slice none 0 0, .int .i64 0, .slice none 0 0, .slice none 0 0, .slice none 0 0]
  have HM := Lib.hid hM
  have HT := Lib.hid (h.below hM.below)
  have HF := Lib.hid hf
  clear hin hM h hf
  unfold refT
  go_enter Try.func21, Try.ntmps21
  go_wp2_with fail
  refine (ref_full HT.out.slots HT.out.ok HF.out).mono ?_
  rintro e w2 ⟨rfl, hb2⟩
  unfold refV
  have hal := (Below.refl w2.heap.size w2).alloc (Nat.le_refl _) (Obj.cells #[Value.int .i64 (σ.cap : Int), .slice r.sa r.st.length r.sc, .int .i64 (r.fr : Int), .slice r.ga σ.cap r.gc, .slice r.oa σ.cap r.oc] 38)
  have hM2 := (HM.out.calm hb2).calm hal
  have HM2 := Lib.hid hM2
  have hx := hM2.box
  have hy := hM2.res
  unfold refT at hx
  obtain ⟨hc0, hc1, hc2, hc3, hc4, hc5⟩ := row6 hx
  obtain ⟨hd0, hd1, hd2, hd3, hd4, hd5⟩ := row6 hy
  obtain ⟨hf0, hf1, hf2, hf3, hf4, hf5⟩ := frozen6 hy
  have HY := Lib.hid hy
  clear hb2 hM2 hx hy hal
  go_wp2_with fail
  rw [set6 HY.out]
  obtain ⟨hz, hb⟩ := HM2.out.fin (refT σ r)
  exact bodyPost_ret (v := .tuple #[.agg (refT σ r), .int .u64 0, .int .i64 2]) (results_row_tmp2 (fn := Try.f21) (p := 4) (u := 5) (v := 6) rfl _ _ (w.heap.size + 1) 40 (refT σ r) (0, 0) _ rfl hz HU.out rfl HI.out) rfl ⟨rfl, hb⟩
def RtOpen (B : Nat) (G : Nat → Prop) (w : World) (σ : St) (u : Nat → Int) (i : Nat) (t : List Nat) (x : Int) (e : Ending) (w' : World) : Prop :=
  ∃ r', e = .returned (.tuple #[.agg (refT (σ.take i t) r'), .int .u64 ((σ.take i t).hd i), .int .i64 0]) ∧ RefTab B (fun k => G k ∨ w.heap.size ≤ k) w' (σ.take i t) (upd u i x) r' ∧ Below w.heap.size w w'
def OpenMid (w W : World) (σ : St) (u : Nat → Int) (p : Nat) (st : List Nat) (fr : Nat) (sa ga oa : Option Addr) (sc gc oc : Nat) (wx : World) : Prop :=
  ∃ (g1 vc1 : Nat), MidT w wx w.heap.size #[.int .i64 (σ.cap : Int), .slice sa st.length sc, .int .i64 (fr : Int), .slice ga σ.cap gc, .slice oa σ.cap oc, .slice (some ⟨g1, 0, none⟩) σ.cap vc1] #[Value.int .i64 0, .slice none 0 0, .int .i64 0, .slice none 0 0, .slice none 0 0, .slice none 0 0] ∧
    wx.heap[p]? = some (.cells #[Value.int .i64 (σ.cap : Int), .slice sa st.length sc, .int .i64 (fr : Int), .slice ga σ.cap gc, .slice oa σ.cap oc] 38 (0, 0)) ∧
    wx.ownsRow W.heap.size 32 1 (.slice (some ⟨g1, 0, none⟩) σ.cap vc1) σ.cap (valR σ.cap u) ∧ W.heap.size ≤ g1 ∧ ∀ k, k ≠ w.heap.size → k < W.heap.size → wx.heap[k]? = W.heap[k]?
set_option maxHeartbeats 4000000 in
set_option maxRecDepth 100000 in
theorem rt_open (h : RefTab B G w σ u r) (x : Int) (j : Nat) (t : List Nat) (hf : σ.free = (j + 1) :: t) (hB : B ≤ w.heap.size) (hG : ∀ k, G k → k < w.heap.size) :
    Calls Try.prog 21 #[.agg (refT σ r), .int .u32 x] w (RtOpen B G w σ u (j + 1) t x) := by
  obtain ⟨i0, ji, jz0, jz1, jz2⟩ := info_parts u32sInfo
  have HU := Lib.hid Try.underlying40
  have hin : (Try.prog.info? 40).map (·.size) = some 6 := by kernel_rfl
  have HI := Lib.hid hin
  have hok := h.ok
  have hcap := hok.cap2
  have him := (hok.free (j + 1)).1 (by rw [hf]; simp)
  obtain ⟨hi1, hi2, hi3⟩ := him
  have hji : (j : Int) < (σ.cap : Int) := by omega
  have hj0 : (0 : Int) ≤ (j : Int) := by omega
  have hM := MidT.new w (refT σ r) #[Value.int .i64 0, .slice none 0 0, .int .i64 0, .slice none 0 0, .slice none 0 0, .slice none 0 0]
  have HM := Lib.hid hM
  have HT := Lib.hid (h.below hM.below)
  have HH := Lib.hid h
  have HF := Lib.hid hf
  clear hin hM h hok hf hi3
  unfold refT
  go_enter Try.func21, Try.ntmps21
  go_wp2_with fail
  refine (ref_take HT.out.slots HT.out.ok (j + 1) t HF.out (Nat.le_trans hB HM.out.below.size)).mono ?_
  rintro e w3 ⟨st, fr, sa, ga, oa, sc, gc, oc, rfl, hR, hb3⟩
  unfold refV
  rw [show (σ.take (j + 1) t).cap = σ.cap from rfl]
  have hal := (Below.refl w3.heap.size w3).alloc (Nat.le_refl _) (Obj.cells #[Value.int .i64 (σ.cap : Int), .slice sa st.length sc, .int .i64 (fr : Int), .slice ga σ.cap gc, .slice oa σ.cap oc] 38)
  have hM4 := (HM.out.calm hb3).calm hal
  have hz4 := heap_alloc_new w3 (Obj.cells #[Value.int .i64 (σ.cap : Int), .slice sa st.length sc, .int .i64 (fr : Int), .slice ga σ.cap gc, .slice oa σ.cap oc] 38)
  have hR4 := hR.below hal
  have HR4 := Lib.hid hR4
  have hs3 : w.heap.size + 2 ≤ w3.heap.size := Nat.le_trans (by simp) hb3.size
  clear hR hb3 hR4
  go_upto_region 4 with fail
  generalize hWW : w3.alloc (Obj.cells #[Value.int .i64 (σ.cap : Int), .slice sa st.length sc, .int .i64 (fr : Int), .slice ga σ.cap gc, .slice oa σ.cap oc] 38) = W at hM4 hz4 HR4 hal ⊢
  clear hWW
  generalize w3.heap.size = p at hz4 hs3 HR4 hal ⊢
  have hdr : Below W.heap.size W W.drew := (Below.refl _ _).drew
  have hMd := hM4.calm hdr
  have hvals := row_below HH.out.vals hMd.below
  have hszq := hMd.size
  have hsz : W.heap.size ≤ W.drew.heap.size := Nat.le_refl _
  have hp : p < W.heap.size := (Array.getElem?_eq_some_iff.1 hz4).1
  have hzd : W.drew.heap[p]? = some (.cells #[Value.int .i64 (σ.cap : Int), .slice sa st.length sc, .int .i64 (fr : Int), .slice ga σ.cap gc, .slice oa σ.cap oc] 38 (0, 0)) := hz4
  have hxd := hMd.box
  unfold refT at hxd
  obtain ⟨hc0, hc1, hc2, hc3, hc4, hc5⟩ := row6 hxd
  obtain ⟨hp0, hp1, hp2, hp3, hp4⟩ := row5 hzd
  have HMd := Lib.hid hMd
  have HZd := Lib.hid hzd
  clear hM4 hMd hz4 hzd hxd hal hdr
  go_cut [8] from 21 to 26 (fun s8 wx => s8 = .int .u32 ((j : Int) + 1) ∧ OpenMid w W σ u p st fr sa ga oa sc gc oc wx)
  case first =>
    go_region_law (refine step_append_row rfl (.const (.slice none 0 0)) (.tmp 23) 35 rfl W.heap.size 32 i0 (.int .u32 0) 4 Try.underlying35 ji jz0 jz1 jz2 rfl (.slice none 0 0) 0 [] rfl (World.ownsRow_nil _ _ _ _) B r.va σ.cap r.vc (valR σ.cap u) rfl hvals (valR_one _ _) (by unfold maxLen; omega) (by omega) hsz ?_; intro v1 W1 ho1 hg1; rw [Nat.zero_add, List.nil_append] at ho1; obtain ⟨va1, vc1, rfl⟩ := row_val ho1; have hM1 := HMd.out.grown hg1; have hx1 := hM1.box; have hz1 := (hg1.block p hp (by simp [Value.ownBlock])).trans HZd.out; unfold refT at hx1; obtain ⟨ha0, ha1, ha2, ha3, ha4, ha5⟩ := row6 hx1; obtain ⟨hf0, hf1, hf2, hf3, hf4, hf5⟩ := frozen6 hx1; obtain ⟨hb0, hb1, hb2, hb3, hb4⟩ := row5 hz1; have HX1 := Lib.hid hx1; have HZ1 := Lib.hid hz1; have HM1 := Lib.hid hM1; clear hM1 hx1 hz1)
    all_goals
      rw [set6 HX1.out]
      obtain ⟨g1, rfl⟩ := row_head ho1 (by omega)
      have hg1q := row_from ho1 g1 rfl
      have hM2 := HM1.out.setBox #[.int .i64 (σ.cap : Int), .slice sa st.length sc, .int .i64 (fr : Int), .slice ga σ.cap gc, .slice oa σ.cap oc, .slice (some ⟨g1, 0, none⟩) σ.cap vc1]
      have hz2 := (setRow_other W1 w.heap.size p #[.int .i64 (σ.cap : Int), .slice sa st.length sc, .int .i64 (fr : Int), .slice ga σ.cap gc, .slice oa σ.cap oc, .slice (some ⟨g1, 0, none⟩) σ.cap vc1] (by omega)).trans HZ1.out
      have ho2 := row_keep (w' := W1.setRow w.heap.size #[.int .i64 (σ.cap : Int), .slice sa st.length sc, .int .i64 (fr : Int), .slice ga σ.cap gc, .slice oa σ.cap oc, .slice (some ⟨g1, 0, none⟩) σ.cap vc1]) ho1 (fun k hk => setRow_other _ _ _ _ (by simp [Value.ownBlock] at hk; omega))
      have hbW : Below W.heap.size W W1 := (Below.refl _ _).drew.grown hg1 (Nat.le_refl _) (fun k hk => by simp [Value.ownBlock] at hk)
      have hK2 : ∀ k, k ≠ w.heap.size → k < W.heap.size → (W1.setRow w.heap.size #[.int .i64 (σ.cap : Int), .slice sa st.length sc, .int .i64 (fr : Int), .slice ga σ.cap gc, .slice oa σ.cap oc, .slice (some ⟨g1, 0, none⟩) σ.cap vc1]).heap[k]? = W.heap[k]? := fun k hk hl => (setRow_other _ _ _ _ hk).trans (hbW.block k hl)
      clear hc0 hc1 hc2 hc3 hc4 hc5 hp0 hp1 hp2 hp3 hp4 ha0 ha1 ha2 ha3 ha4 ha5 hb0 hb1 hb2 hb3 hb4 hf0 hf1 hf2 hf3 hf4 hf5 hvals ho1 hbW hg1 HX1 HZ1 HM1 HMd HZd
      go_wp2_with fail
      go_meet
      exact ⟨rfl, g1, vc1, hM2, hz2, ho2, hg1q, hK2⟩
  case rest =>
    obtain ⟨rfl, g1, vc1, hM2, hz2, ho2, hg1q, hK2⟩ := hcut
    have hsW : w.heap.size + 2 ≤ W.heap.size := hszq
    clear hc0 hc1 hc2 hc3 hc4 hc5 hp0 hp1 hp2 hp3 hp4 hvals HMd HZd
    generalize wc = W2 at hM2 hz2 ho2 hK2 ⊢
    obtain ⟨hc0, hc1, hc2, hc3, hc4, hc5⟩ := row6 hM2.box
    have hcj := (ho2.cellAt j (by omega)).trans (valR_at σ.cap u j (by omega))
    have hfj := ho2.frozenAt j
    have hM3 := hM2.store (j := j) (Nat.le_trans hsW hg1q) (.int .u32 x)
    have hK3 : ∀ k, k ≠ w.heap.size → k < W.heap.size → (W2.setCell ⟨g1, j, none⟩ (.int .u32 x)).heap[k]? = W.heap[k]? := fun k hk hl => (heap_setCell_other _ _ _ _ (by show k ≠ g1; omega)).trans (hK2 k hk hl)
    have hz3 := (heap_setCell_other W2 ⟨g1, j, none⟩ p (.int .u32 x) (by show p ≠ g1; omega)).trans hz2
    have ho3 := (ho2.stored j (.int .u32 x)).1
    have HM3 := Lib.hid hM3
    have HZ3 := Lib.hid hz3
    have HO3 := Lib.hid ho3
    have HK3 := Lib.hid hK3
    clear hM2 hz2 ho2 hK2 hM3 hz3 ho3 hK3
    go_wp2_with fail
    clear hc0 hc1 hc2 hc3 hc4 hc5 hcj hfj
    have hRall : ∀ w', (∀ k, k ≠ w.heap.size → k ≠ w.heap.size + 1 → k < W.heap.size → w'.heap[k]? = W.heap[k]?) → RefAt B (fun k => G k ∨ w.heap.size ≤ k) w' (σ.take (j + 1) t) st fr sa ga oa sc gc oc := fun w' hw => HR4.out.lt.keep (fun k hk => hw k (by rcases hk.1 with h9 | h9; have := hG k h9; omega; simp at h9; omega) (by rcases hk.1 with h9 | h9; have := hG k h9; omega; simp at h9; omega) hk.2) (fun k hk => by rcases hk.1 with h9 | h9; exact .inl h9; simp at h9; exact .inr (by omega))
    have HRall := Lib.hid hRall
    generalize W2.setCell ⟨g1, j, none⟩ (.int .u32 x) = W3 at HM3 HZ3 HO3 HK3 ⊢
    obtain ⟨hc0, hc1, hc2, hc3, hc4, hc5⟩ := row6 HM3.out.box
    obtain ⟨hp0, hp1, hp2, hp3, hp4⟩ := row5 HZ3.out
    obtain ⟨hd0, hd1, hd2, hd3, hd4, hd5⟩ := row6 HM3.out.res
    obtain ⟨hf0, hf1, hf2, hf3, hf4, hf5⟩ := frozen6 HM3.out.res
    clear hRall
    go_region_with (first
      | (go_at_call 38; refine (ref_gen (HRall.out _ (fun k hk hk1 hl => by first | exact HK3.out k hk hl)) (St.take_ok HH.out.ok HF.out) (j + 1) (by omega)).mono ?_; rintro e w5 ⟨rfl, hb5⟩; have hM5 := (HM3.out.calm (Below.refl _ _).drew).calm hb5; obtain ⟨hr0, hr1, hr2, hr3, hr4, hr5⟩ := row6 hM5.box; obtain ⟨hs0, hs1, hs2, hs3, hs4, hs5⟩ := row6 hM5.res; obtain ⟨ht0, ht1, ht2, ht3, ht4, ht5⟩ := frozen6 hM5.res; have HM5 := Lib.hid hM5; have HB5 := Lib.hid hb5; clear hM5 hb5)
      | (go_at_call 37; refine (refpack_any ((j : Int) + 1) _ _ (by omega) (by omega) ((St.take_ok HH.out.ok HF.out).gen (j + 1)).1 ((St.take_ok HH.out.ok HF.out).gen (j + 1)).2).mono ?_; rintro e w6 ⟨rfl, rfl⟩))
    all_goals
      go_wp2_with fail
      rw [set6 HM5.out.res]
      have hlg := (row_lt HO3.out g1 rfl).2
      have hTe : #[Value.int .i64 (σ.cap : Int), .slice sa st.length sc, .int .i64 (fr : Int), .slice ga σ.cap gc, .slice oa σ.cap oc, .slice (some ⟨g1, 0, none⟩) σ.cap vc1] = refT (σ.take (j + 1) t) ⟨st, fr, sa, ga, oa, some ⟨g1, 0, none⟩, sc, gc, oc, vc1⟩ := rfl
      rw [hTe]
      obtain ⟨hz, hb⟩ := HM5.out.fin (refT (σ.take (j + 1) t) ⟨st, fr, sa, ga, oa, some ⟨g1, 0, none⟩, sc, gc, oc, vc1⟩)
      have hR := HRall.out (w5.setRow (w.heap.size + 1) (refT (σ.take (j + 1) t) ⟨st, fr, sa, ga, oa, some ⟨g1, 0, none⟩, sc, gc, oc, vc1⟩)) (fun k hk hk1 hl => (setRow_other _ _ _ _ hk1).trans ((HB5.out.block k (by show k < W3.heap.size; omega)).trans (HK3.out k hk hl)))
      have hv := row_keep (w' := w5.setRow (w.heap.size + 1) (refT (σ.take (j + 1) t) ⟨st, fr, sa, ga, oa, some ⟨g1, 0, none⟩, sc, gc, oc, vc1⟩)) (row_below (row_below HO3.out (Below.refl _ _).drew) HB5.out) (fun k hk => setRow_other _ _ _ _ (by simp [Value.ownBlock] at hk; omega))
      rw [← valR_upd] at hv
      have hT : RefTab B (fun k => G k ∨ w.heap.size ≤ k) (w5.setRow (w.heap.size + 1) (refT (σ.take (j + 1) t) ⟨st, fr, sa, ga, oa, some ⟨g1, 0, none⟩, sc, gc, oc, vc1⟩)) (σ.take (j + 1) t) (upd u (j + 1) x) ⟨st, fr, sa, ga, oa, some ⟨g1, 0, none⟩, sc, gc, oc, vc1⟩ :=
        ⟨hR, St.take_ok HH.out.ok HF.out, row_mono hv (by omega), fun k hk => .inr (by simp [Value.ownBlock] at hk; omega)⟩
      exact bodyPost_ret (v := .tuple #[.agg (refT (σ.take (j + 1) t) ⟨st, fr, sa, ga, oa, some ⟨g1, 0, none⟩, sc, gc, oc, vc1⟩), .int .u64 ((σ.take (j + 1) t).gen (j + 1) * 4294967296 + ((j : Int) + 1)), .int .i64 0]) (results_row_tmp2 (fn := Try.f21) (p := 4) (u := 5) (v := 6) rfl _ _ (w.heap.size + 1) 40 (refT (σ.take (j + 1) t) ⟨st, fr, sa, ga, oa, some ⟨g1, 0, none⟩, sc, gc, oc, vc1⟩) (0, 0) _ rfl hz HU.out rfl HI.out) rfl ⟨_, rfl, hT, hb⟩
end
end Go.Proofs.Ytnikbnbmbifcjaa
