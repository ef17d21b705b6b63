/- The reference's Close of a table of handles. -/
import Derived.Test.YtnikbnbmbifcjaaRefHand4
import Derived.StillTailTactics
set_option linter.unusedVariables false
namespace Go.Proofs.Ytnikbnbmbifcjaa
open Go.RowKit
theorem row5 {w : World} {q : Nat} {c0 c1 c2 c3 c4 : Value} {t : TypeId} (h : w.heap[q]? = some (.cells #[c0, c1, c2, c3, c4] t (0, 0))) :
    w.cell? ⟨q, 0, none⟩ = some c0 ∧ w.cell? ⟨q, 1, none⟩ = some c1 ∧ w.cell? ⟨q, 2, none⟩ = some c2 ∧ w.cell? ⟨q, 3, none⟩ = some c3 ∧ w.cell? ⟨q, 4, none⟩ = some c4 := by
  refine ⟨?_, ?_, ?_, ?_, ?_⟩ <;> (rw [cell_of_row _ _ _ _ _ _ h]; rfl)
theorem MidT.setBox {w0 W : World} {q : Nat} {cs zs : Array Value} (h : MidT w0 W q cs zs) (ds : Array Value) : MidT w0 (W.setRow q ds) q ds zs :=
  ⟨setRow_heap _ _ _ _ _ _ h.box, (setRow_other _ _ _ _ (by omega)).trans h.res, below_setRow h.below (Nat.le_of_eq h.hq.symm) _, h.hq, by simpa [World.setRow] using h.size⟩
section
variable {B : Nat} {G G' : Nat → Prop} {w w' : World} {σ : St} {u : Nat → Int} {r : RL}
set_option maxHeartbeats 2000000 in
set_option maxRecDepth 100000 in
theorem rt_close_bad (h : RefTab B G w σ u r) (n : Int) (h0 : 0 ≤ n) (h1 : n < 18446744073709551616) (he : σ.ent n = 0) :
    Calls Try.prog 20 #[.agg (refT σ r), .int .u64 n] w (fun e w' => e = .returned (.tuple #[.agg (refT σ r), .int .u32 0, .int .i64 5]) ∧ Below w.heap.size w w') := by
  have HU := Lib.hid Try.underlying40
  have hin : (Try.prog.info? 40).map (·.size) = some 6 := by kernel_rfl
  have HI := Lib.hid hin
  have hM := MidT.new w (refT σ r) #[Value.int .i64 0, .slice none 0 0, .int .i64 0, .slice none 0 0, .slice none 0 0, .slice none 0 0]
  have HM := Lib.hid hM
  have HT := Lib.hid (h.below hM.below)
  clear hin hM h
  unfold refT
  go_enter Try.func20, Try.ntmps20
  go_wp2_with fail
  refine (rt_entry HT.out n h0 h1).mono ?_
  rintro e w2 ⟨rfl, hb2⟩
  rw [he]
  have hM2 := HM.out.calm hb2
  have HM2 := Lib.hid hM2
  have hx := hM2.box
  have hy := hM2.res
  unfold refT at hx
  obtain ⟨hc0, hc1, hc2, hc3, hc4, hc5⟩ := row6 hx
  obtain ⟨hd0, hd1, hd2, hd3, hd4, hd5⟩ := row6 hy
  obtain ⟨hf0, hf1, hf2, hf3, hf4, hf5⟩ := frozen6 hy
  have HY := Lib.hid hy
  clear hb2 hM2 hx hy he
  go_wp2_with fail
  rw [set6 HY.out]
  obtain ⟨hz, hb⟩ := HM2.out.fin (refT σ r)
  exact bodyPost_ret (v := .tuple #[.agg (refT σ r), .int .u32 0, .int .i64 5]) (results_row_tmp2 (fn := Try.f20) (p := 4) (u := 5) (v := 6) rfl _ _ (w.heap.size + 1) 40 (refT σ r) (0, 0) _ rfl hz HU.out rfl HI.out) rfl ⟨rfl, hb⟩
def RtClose (B : Nat) (G : Nat → Prop) (w : World) (σ : St) (u : Nat → Int) (E : Nat) (e : Ending) (w' : World) : Prop :=
  ∃ r', e = .returned (.tuple #[.agg (refT (σ.put E) r'), .int .u32 (u E), .int .i64 0]) ∧ RefTab B (fun k => G k ∨ w.heap.size ≤ k) w' (σ.put E) u r' ∧ Below w.heap.size w w'
set_option maxHeartbeats 2000000 in
set_option maxRecDepth 100000 in
theorem rt_close (h : RefTab B G w σ u r) (n : Int) (h0 : 0 ≤ n) (h1 : n < 18446744073709551616) (he : σ.ent n ≠ 0) (hB : B ≤ w.heap.size) (hG : ∀ k, G k → k < w.heap.size) :
    Calls Try.prog 20 #[.agg (refT σ r), .int .u64 n] w (RtClose B G w σ u (σ.ent n)) := by
  have HU := Lib.hid Try.underlying40
  have hin : (Try.prog.info? 40).map (·.size) = some 6 := by kernel_rfl
  have HI := Lib.hid hin
  have hok := h.ok
  have hcap := hok.cap2
  have hent := (ent_pos hok h0 he).1
  have hon := hok.on _ hent
  generalize hE : σ.ent n = E at *
  obtain ⟨j, rfl⟩ : ∃ j, E = j + 1 := ⟨E - 1, by omega⟩
  have HE := Lib.hid hE
  have HON := Lib.hid hent
  have hji : (j : Int) < (σ.cap : Int) := by omega
  have hj0 : (0 : Int) ≤ (j : Int) := by omega
  have hj1 : ¬ ((j : Int) + 1 = 0) := by omega
  have hM := MidT.new w (refT σ r) #[Value.int .i64 0, .slice none 0 0, .int .i64 0, .slice none 0 0, .slice none 0 0, .slice none 0 0]
  have HM := Lib.hid hM
  have HT := Lib.hid (h.below hM.below)
  have HH := Lib.hid h
  clear hin hM h hok hE he hent
  unfold refT
  go_enter Try.func20, Try.ntmps20
  go_wp2_with fail
  refine (rt_entry HT.out n h0 h1).mono ?_
  rintro e w2 ⟨rfl, hb2⟩
  rw [HE.out]
  have hM2 := HM.out.calm hb2
  have hT2 := HT.out.below hb2
  have HM2 := Lib.hid hM2
  have hx := hM2.box
  unfold refT at hx
  obtain ⟨hc0, hc1, hc2, hc3, hc4, hc5⟩ := row6 hx
  have hs2 := hM2.size
  have HT2 := Lib.hid hT2
  clear hb2 hM2 hx hT2
  go_wp2_with fail
  refine (ref_put HT2.out.slots HT2.out.ok (j + 1) (by omega) HON.out (by omega)).mono ?_
  rintro e w3 ⟨sa, oa, sc, oc, rfl, hR, hb3⟩
  unfold refV
  rw [show (σ.put (j + 1)).cap = σ.cap from rfl]
  have hal := (Below.refl w3.heap.size w3).alloc (Nat.le_refl _) (Obj.cells #[Value.int .i64 (σ.cap : Int), .slice sa (r.st ++ [j + 1]).length sc, .int .i64 (r.fr : Int), .slice r.ga σ.cap r.gc, .slice oa σ.cap oc] 38)
  rw [show (r.st ++ [j + 1]).length = r.st.length + 1 by simp] at hal
  have hM4 := (HM2.out.calm hb3).calm hal
  have hx4 := hM4.box
  unfold refT at hx4
  have hfx := frozen6 hx4
  clear hc0 hc1 hc2 hc3 hc4 hc5
  obtain ⟨hc0, hc1, hc2, hc3, hc4, hc5⟩ := row6 hx4
  obtain ⟨hf0, hf1, hf2, hf3, hf4, hf5⟩ := hfx
  have HX4 := Lib.hid hx4
  have HM4 := Lib.hid hM4
  have HB3 := Lib.hid hb3
  have HR3 := Lib.hid hR
  have HAL := Lib.hid hal
  clear hx4 hM4 hb3 hR hal
  go_wp2_with fail
  rw [set5 HX4.out]
  have hM5 := HM4.out.setBox #[.int .i64 (σ.cap : Int), .slice sa (r.st.length + 1) sc, .int .i64 (r.fr : Int), .slice r.ga σ.cap r.gc, .slice oa σ.cap oc, .slice r.va σ.cap r.vc]
  have hR5 := (HR3.out.below HAL.out).keep (w' := (w3.alloc (Obj.cells #[.int .i64 (σ.cap : Int), .slice sa (r.st.length + 1) sc, .int .i64 (r.fr : Int), .slice r.ga σ.cap r.gc, .slice oa σ.cap oc] 38)).setRow w.heap.size #[.int .i64 (σ.cap : Int), .slice sa (r.st.length + 1) sc, .int .i64 (r.fr : Int), .slice r.ga σ.cap r.gc, .slice oa σ.cap oc, .slice r.va σ.cap r.vc]) (G' := fun k => G k ∨ w.heap.size + 2 ≤ k)
    (fun k hk => setRow_other _ _ _ _ (by rcases hk with hk | hk; have := hG k hk; omega; omega)) (fun k hk => by rcases hk with hk | hk; exact .inl hk; exact .inr (by omega))
  clear hc0 hc1 hc2 hc3 hc4 hc5 hf0 hf1 hf2 hf3 hf4 hf5
  generalize (w3.alloc _).setRow w.heap.size _ = W at hM5 hR5 ⊢
  obtain ⟨g, hva, hg, hcj0⟩ := row_cell (j := j) (row_below HH.out.vals hM5.below) (by omega)
  have hcj := hcj0.trans (valR_at σ.cap u j (by omega))
  generalize hU : u (j + 1) = U at hcj
  have HUU := Lib.hid hU
  obtain ⟨hc0, hc1, hc2, hc3, hc4, hc5⟩ := row6 hM5.box
  obtain ⟨hd0, hd1, hd2, hd3, hd4, hd5⟩ := row6 hM5.res
  obtain ⟨hf0, hf1, hf2, hf3, hf4, hf5⟩ := frozen6 hM5.res
  have hc5' := hc5
  rw [hva] at hc5'
  have HVA := Lib.hid hva
  have HM5 := Lib.hid hM5
  have HR5 := Lib.hid hR5
  clear hM5 hR5 hva hU hcj0 hc5
  rw [HVA.out]
  have hgl : g < w.heap.size := by
    have h9 := row_lt HH.out.vals g (by rw [HVA.out]; rfl)
    exact h9.2
  have hgne : ¬ g = w.heap.size + 1 := by omega
  have hgne2 : ¬ w.heap.size + 1 = g := by omega
  go_region
  rw [set6 HM5.out.res]
  have hTe : #[Value.int .i64 (σ.cap : Int), .slice sa (r.st.length + 1) sc, .int .i64 (r.fr : Int), .slice r.ga σ.cap r.gc, .slice oa σ.cap oc, .slice (some ⟨g, 0, none⟩) σ.cap r.vc] = refT (σ.put (j + 1)) { r with st := r.st ++ [j + 1], sa := sa, oa := oa, sc := sc, oc := oc } := by
    unfold refT
    rw [← HVA.out, show (r.st ++ [j + 1]).length = r.st.length + 1 by simp]
    rfl
  rw [hTe]
  obtain ⟨hz, hb⟩ := HM5.out.fin (refT (σ.put (j + 1)) { r with st := r.st ++ [j + 1], sa := sa, oa := oa, sc := sc, oc := oc })
  have hbd := hb.drew
  have hv := row_below HH.out.vals hbd
  have hR6 := HR5.out.keep (w' := (W.setRow (w.heap.size + 1) (refT (σ.put (j + 1)) { r with st := r.st ++ [j + 1], sa := sa, oa := oa, sc := sc, oc := oc })).drew) (G' := fun k => G k ∨ w.heap.size ≤ k) (fun k hk => setRow_other _ _ _ _ (by rcases hk with hk | hk; have := hG k hk; omega; omega)) (fun k hk => by rcases hk with hk | hk; exact .inl hk; exact .inr (by omega))
  have hT : RefTab B (fun k => G k ∨ w.heap.size ≤ k) (W.setRow (w.heap.size + 1) (refT (σ.put (j + 1)) { r with st := r.st ++ [j + 1], sa := sa, oa := oa, sc := sc, oc := oc })).drew (σ.put (j + 1)) u { r with st := r.st ++ [j + 1], sa := sa, oa := oa, sc := sc, oc := oc } :=
    ⟨hR6, St.put_ok HH.out.ok HON.out, hv, fun k hk => .inl (HH.out.inV k hk)⟩
  clear hc0 hc1 hc2 hc3 hc4 hc5' hd0 hd1 hd2 hd3 hd4 hd5 hf0 hf1 hf2 hf3 hf4 hf5 hcj
  go_wp2_with fail
  exact bodyPost_ret (v := .tuple #[.agg (refT (σ.put (j + 1)) { r with st := r.st ++ [j + 1], sa := sa, oa := oa, sc := sc, oc := oc }), .int .u32 U, .int .i64 0]) (results_row_tmp2 (fn := Try.f20) (p := 4) (u := 5) (v := 6) rfl _ _ (w.heap.size + 1) 40 (refT (σ.put (j + 1)) { r with st := r.st ++ [j + 1], sa := sa, oa := oa, sc := sc, oc := oc }) (0, 0) _ rfl hz HU.out rfl HI.out) rfl ⟨_, by rw [HUU.out], hT, hbd⟩
end
end Go.Proofs.Ytnikbnbmbifcjaa
