/- The reference's Replace of a table of handles. -/
import Derived.Test.YtnikbnbmbifcjaaRefHand3
set_option linter.unusedVariables false
namespace Go.Proofs.Ytnikbnbmbifcjaa
open Go.RowKit
theorem valR_upd (n : Nat) (u : Nat → Int) (j : Nat) (x : Int) : valR n (upd u (j + 1) x) = (valR n u).set j (.int .u32 x) := by
  apply List.ext_getElem
  · simp [valR]
  · intro k h2 h3
    rw [List.getElem_set]
    by_cases e : j = k
    · subst e
      simp [valR, upd]
    · rw [if_neg e]
      have : ¬ k = j := fun h => e h.symm
      simp [valR, upd, this]
theorem valR_one (n : Nat) (u : Nat → Int) : ∀ x ∈ valR n u, x.oneCell' = true := by
  intro x hx
  unfold valR at hx
  obtain ⟨i, _, rfl⟩ := List.mem_map.1 hx
  rfl
/-- two boxes of a table's state, the second one's place is the next -/
structure MidT (w0 W : World) (q : Nat) (cs zs : Array Value) : Prop where
  box : W.heap[q]? = some (.cells cs 40 (0, 0))
  res : W.heap[q + 1]? = some (.cells zs 40 (0, 0))
  below : Below w0.heap.size w0 W
  hq : q = w0.heap.size
  size : q + 2 ≤ W.heap.size
section
variable {w0 W W' : World} {q : Nat} {cs zs : Array Value}
theorem MidT.new (w0 : World) (a z : Array Value) : MidT w0 ((w0.alloc (Obj.cells a 40)).alloc (Obj.cells z 40)) w0.heap.size a z :=
  ⟨heap_alloc2_old _ _ _, heap_alloc2_new _ _ _, ((Below.refl _ _).alloc (Nat.le_refl _) _).alloc (by simp) _, rfl, by simp⟩
theorem MidT.next (h : MidT w0 W q cs zs) (hb : Below (q + 2) W W') : MidT w0 W' q cs zs :=
  ⟨(hb.block q (by omega)).trans h.box, (hb.block (q + 1) (by omega)).trans h.res, h.below.trans (hb.mono (by have := h.hq; omega)), h.hq, Nat.le_trans h.size hb.size⟩
theorem MidT.calm (h : MidT w0 W q cs zs) (hb : Below W.heap.size W W') : MidT w0 W' q cs zs := h.next (hb.mono h.size)
theorem MidT.grown (h : MidT w0 W q cs zs) (hg : W.grownBy W' none) : MidT w0 W' q cs zs := h.next ((Below.refl _ _).grown hg h.size (fun k e => by cases e))
theorem MidT.store (h : MidT w0 W q cs zs) {g j : Nat} (hg : q + 2 ≤ g) (x : Value) : MidT w0 (W.setCell ⟨g, j, none⟩ x) q cs zs := h.next ((Below.refl _ _).setCell (p := ⟨g, j, none⟩) hg x)
theorem MidT.set (h : MidT w0 W q cs zs) (j : Nat) (x : Value) : MidT w0 (W.setCell ⟨q, j, none⟩ x) q (cs.setIfInBounds j x) zs :=
  ⟨heap_setCell_same _ _ _ _ _ _ h.box, (heap_setCell_other _ _ _ _ (by show q + 1 ≠ q; omega)).trans h.res, h.below.setCell (by show _ ≤ q; exact Nat.le_of_eq h.hq.symm) _, h.hq, by rw [size_set]; exact h.size⟩
theorem MidT.fin (h : MidT w0 W q cs zs) (ds : Array Value) : (W.setRow (q + 1) ds).heap[q + 1]? = some (.cells ds 40 (0, 0)) ∧ Below w0.heap.size w0 (W.setRow (q + 1) ds) :=
  ⟨setRow_heap _ _ _ _ _ _ h.res, below_setRow h.below (by have := h.hq; omega) _⟩
end
section
variable {B : Nat} {G G' : Nat → Prop} {w w' : World} {σ : St} {u : Nat → Int} {r : RL}
def RtRepl (B : Nat) (G : Nat → Prop) (w : World) (σ : St) (u : Nat → Int) (e : Ending) (w' : World) : Prop :=
  ∃ r', e = .returned (.tuple #[.agg (refT σ r'), .int .i64 0]) ∧ RefTab B (fun k => G k ∨ w.heap.size ≤ k) w' σ u r' ∧ Below w.heap.size w w'
set_option maxHeartbeats 2000000 in
set_option maxRecDepth 100000 in
theorem rt_replace_bad (h : RefTab B G w σ u r) (n x : Int) (h0 : 0 ≤ n) (h1 : n < 18446744073709551616) (he : σ.ent n = 0) :
    Calls Try.prog 18 #[.agg (refT σ r), .int .u64 n, .int .u32 x] w (fun e w' => e = .returned (.tuple #[.agg (refT σ r), .int .i64 5]) ∧ Below w.heap.size w w') := by
  have HU := Lib.hid Try.underlying40
  have hin : (Try.prog.info? 40).map (·.size) = some 6 := by kernel_rfl
  have HI := Lib.hid hin
  have hM := MidT.new w (refT σ r) #[Value.int .i64 0, .slice none 0 0, .int .i64 0, .slice none 0 0, .slice none 0 0, .slice none 0 0]
  have HM := Lib.hid hM
  have HT := Lib.hid (h.below hM.below)
  clear hin hM h
  unfold refT
  go_enter Try.func18, Try.ntmps18
  go_wp2_with fail
  refine (rt_entry HT.out n h0 h1).mono ?_
  rintro e w2 ⟨rfl, hb2⟩
  rw [he]
  have hM2 := HM.out.calm hb2
  have HM2 := Lib.hid hM2
  have hx := hM2.box
  have hy := hM2.res
  unfold refT at hx
  obtain ⟨hc0, hc1, hc2, hc3, hc4, hc5⟩ := row6 hx
  obtain ⟨hd0, hd1, hd2, hd3, hd4, hd5⟩ := row6 hy
  obtain ⟨hf0, hf1, hf2, hf3, hf4, hf5⟩ := frozen6 hy
  have HY := Lib.hid hy
  clear hb2 hM2 hx hy he
  go_wp2_with fail
  rw [set6 HY.out]
  obtain ⟨hz, hb⟩ := HM2.out.fin (refT σ r)
  exact bodyPost_ret (v := .tuple #[.agg (refT σ r), .int .i64 5]) (results_row_tmp (fn := Try.f18) (p := 6) (u := 7) rfl _ _ (w.heap.size + 1) 40 (refT σ r) (0, 0) _ rfl hz HU.out rfl HI.out) rfl ⟨rfl, hb⟩
/-- another row of values behind the boxes -/
theorem RefTab.revalue {v : Nat → Int} {va : Option Addr} {vc b : Nat} (h : RefTab B G w σ u r) (hb : Below w.heap.size w w') (hB : B ≤ w.heap.size) (hr : w'.ownsRow (w.heap.size + b) 32 1 (.slice va σ.cap vc) σ.cap (valR σ.cap v)) :
    RefTab B (fun k => G k ∨ w.heap.size ≤ k) w' σ v { r with va := va, vc := vc } := by
  have h2 := h.below hb
  exact ⟨h2.slots.keep (fun _ _ => rfl) fun k hk => .inl hk, h.ok, row_mono hr (by omega), fun k hk => .inr (by have := row_from hr k hk; omega)⟩
set_option maxHeartbeats 2000000 in
set_option maxRecDepth 100000 in
theorem rt_replace (h : RefTab B G w σ u r) (n x : Int) (h0 : 0 ≤ n) (h1 : n < 18446744073709551616) (he : σ.ent n ≠ 0) (hB : B ≤ w.heap.size) :
    Calls Try.prog 18 #[.agg (refT σ r), .int .u64 n, .int .u32 x] w (RtRepl B G w σ (upd u (σ.ent n) x)) := by
  obtain ⟨i0, ji, jz0, jz1, jz2⟩ := info_parts u32sInfo
  have HU := Lib.hid Try.underlying40
  have hin : (Try.prog.info? 40).map (·.size) = some 6 := by kernel_rfl
  have HI := Lib.hid hin
  have hok := h.ok
  have hcap := hok.cap2
  have hon := hok.on _ (ent_pos hok h0 he).1
  generalize hE : σ.ent n = E at *
  obtain ⟨j, rfl⟩ : ∃ j, E = j + 1 := ⟨E - 1, by omega⟩
  have HE := Lib.hid hE
  have hji : (j : Int) < (σ.cap : Int) := by omega
  have hj0 : (0 : Int) ≤ (j : Int) := by omega
  have hj1 : ¬ ((j : Int) + 1 = 0) := by omega
  have hM := MidT.new w (refT σ r) #[Value.int .i64 0, .slice none 0 0, .int .i64 0, .slice none 0 0, .slice none 0 0, .slice none 0 0]
  have HM := Lib.hid hM
  have HT := Lib.hid (h.below hM.below)
  have HH := Lib.hid h
  clear hin hM h hok hE he
  unfold refT
  go_enter Try.func18, Try.ntmps18
  go_wp2_with fail
  refine (rt_entry HT.out n h0 h1).mono ?_
  rintro e w2 ⟨rfl, hb2⟩
  rw [HE.out]
  have hM2 := HM.out.calm hb2
  have hT2 := HT.out.below hb2
  have HM2 := Lib.hid hM2
  have hx := hM2.box
  unfold refT at hx
  obtain ⟨hc0, hc1, hc2, hc3, hc4, hc5⟩ := row6 hx
  have hvals := hT2.vals
  have hs2 := hM2.size
  clear hb2 hM2 hx hT2
  go_wp2_with (at_builtin; refine wpList_append_row rfl (.const (.slice none 0 0)) (.tmp 16) 35 rfl (w.heap.size + 2) 32 i0 (.int .u32 0) 4 Try.underlying35 ji jz0 jz1 jz2 rfl (.slice none 0 0) 0 [] rfl (World.ownsRow_nil _ _ _ _) B r.va σ.cap r.vc (valR σ.cap u) rfl hvals (valR_one _ _) (by unfold maxLen; omega) (by omega) hs2 ?_; intro v3 w3 ho3 hg3; rw [Nat.zero_add, List.nil_append] at ho3; obtain ⟨va3, vc3, rfl⟩ := row_val ho3; obtain ⟨g3, rfl⟩ := row_head ho3 (by omega); have hM3 := HM2.out.grown hg3; have hx3 := hM3.box; have hf35 := (frozen6 hx3).2.2.2.2.2; have hc35 := (row6 hx3).2.2.2.2.2; have hM4 := hM3.set 5 (.slice (some ⟨g3, 0, none⟩) σ.cap vc3); have hg3b := row_from ho3 g3 rfl; have ho4 : (w3.setCell ⟨w.heap.size, 5, none⟩ (.slice (some ⟨g3, 0, none⟩) σ.cap vc3)).ownsRow (w.heap.size + 2) 32 1 (.slice (some ⟨g3, 0, none⟩) σ.cap vc3) σ.cap (valR σ.cap u) := row_cellset ho3 (by simp [Value.ownBlock]; omega); have hc45 := (row6 hM4.box).2.2.2.2.2; have hcj := ho4.cellAt j (by omega); have hfj := ho4.frozenAt j; have hcj2 := hcj.trans (valR_at σ.cap u j (by omega)); have ho5 := (ho4.stored j (.int .u32 x)).1; have hM5 := hM4.store (j := j) hg3b (.int .u32 x); have HO5 := Lib.hid ho5; have HM5 := Lib.hid hM5; obtain ⟨he0, he1, he2, he3, he4, he5⟩ := row6 hM5.box; obtain ⟨hk0, hk1, hk2, hk3, hk4, hk5⟩ := row6 hM5.res; obtain ⟨hl0, hl1, hl2, hl3, hl4, hl5⟩ := frozen6 hM5.res; clear hM3 hx3 hM4 ho4 hcj ho5 hM5)
  rw [set6 HM5.out.res]
  obtain ⟨hz, hb⟩ := HM5.out.fin (refT σ { r with va := some ⟨g3, 0, none⟩, vc := vc3 })
  have ho6 := HO5.out
  rw [← valR_upd] at ho6
  have ho7 := row_keep (w' := ((w3.setCell ⟨w.heap.size, 5, none⟩ (.slice (some ⟨g3, 0, none⟩) σ.cap vc3)).setCell ⟨g3, j, none⟩ (.int .u32 x)).setRow (w.heap.size + 1) (refT σ { r with va := some ⟨g3, 0, none⟩, vc := vc3 })) ho6 (fun k hk => setRow_other _ _ _ _ (by simp [Value.ownBlock] at hk; omega))
  have hR := HH.out.revalue hb hB ho7
  exact bodyPost_ret (v := .tuple #[.agg (refT σ { r with va := some ⟨g3, 0, none⟩, vc := vc3 }), .int .i64 0]) (results_row_tmp (fn := Try.f18) (p := 6) (u := 7) rfl _ _ (w.heap.size + 1) 40 (refT σ { r with va := some ⟨g3, 0, none⟩, vc := vc3 }) (0, 0) _ rfl hz HU.out rfl HI.out) rfl ⟨_, rfl, hR, hb⟩
end
end Go.Proofs.Ytnikbnbmbifcjaa
