/- The program's table of handles: New, Open, Replace, Close. -/
import Derived.Test.YtnikbnbmbifcjaaHandOk1
set_option linter.unusedVariables false
namespace Go.Proofs.Ytnikbnbmbifcjaa
open Go.RowKit

def FootH (tb : Nat) (va : Option Addr) (Fs : Nat → Prop) (k : Nat) : Prop := k = tb ∨ (∃ x, va = some x ∧ x.block = k) ∨ Fs k
section
variable {I : Impl} {w w' : World} {tb : Nat} {sp : Addr} {σ σ' : St} {u : Nat → Int} {va : Option Addr} {vc : Nat} {Fs Fs' : Nat → Prop}
theorem LieH.dom (h : LieH I w tb sp σ u va vc Fs) : ∀ k, FootH tb va Fs k → k < w.heap.size := by
  intro k hk
  rcases hk with rfl | ⟨x, rfl, rfl⟩ | hk
  · exact h.lt
  · exact (row_lt h.vals _ rfl).2
  · exact I.dom h.slots k hk
theorem LieH.keep (h : LieH I w tb sp σ u va vc Fs) (hk : ∀ k, FootH tb va Fs k → w'.heap[k]? = w.heap[k]?) : LieH I w' tb sp σ u va vc Fs :=
  ⟨I.keep h.slots fun k e => hk k (.inr (.inr e)), (hk tb (.inl rfl)).trans h.box, row_keep h.vals fun k e => hk k (.inr (.inl (foot_own e))), h.tbF, h.vaF⟩
/-- the allocator took a step -/
theorem LieH.step (h : LieH I w tb sp σ u va vc Fs) (ha : Alters Fs Fs' w w') (hs : I.Is w' (.pointer (some sp)) σ' Fs') (hc : σ'.cap = σ.cap) : LieH I w' tb sp σ' u va vc Fs' ∧ Alters (FootH tb va Fs) (FootH tb va Fs') w w' := by
  have hn : ∀ k, k < w.heap.size → ¬ Fs k → ¬ Fs' k := fun k hk hf hf' => by
    rcases ha.foot k hf' with h1 | h1
    · exact hf h1
    · omega
  refine ⟨⟨hs, by rw [hc]; exact (ha.block tb h.lt h.tbF).trans h.box, by rw [hc]; exact row_keep h.vals fun k e => ha.block k (row_lt h.vals k e).2 (h.vaF k e).1, hn tb h.lt h.tbF, fun k e => ?_⟩, ⟨ha.os, ha.tape, ha.output, ha.size, fun k hk hf => ha.block k hk fun e => hf (.inr (.inr e)), fun k hk => ?_⟩⟩
  · rw [hc] at e
    exact ⟨hn k (row_lt h.vals k e).2 (h.vaF k e).1, (h.vaF k e).2⟩
  · rcases hk with rfl | hk | hk
    · exact .inl (.inl rfl)
    · exact .inl (.inr (.inl hk))
    · rcases ha.foot k hk with h1 | h1
      · exact .inl (.inr (.inr h1))
      · exact .inr h1
/-- a value is written -/
theorem LieH.setV {g : Nat} (h : LieH I w tb sp σ u (some ⟨g, 0, none⟩) vc Fs) (j : Nat) (x : Int) : LieH I (w.setCell ⟨g, j, none⟩ (.int .u32 x)) tb sp σ (upd u (j + 1) x) (some ⟨g, 0, none⟩) vc Fs ∧ Alters (FootH tb (some ⟨g, 0, none⟩) Fs) (FootH tb (some ⟨g, 0, none⟩) Fs) w (w.setCell ⟨g, j, none⟩ (.int .u32 x)) := by
  have hg := h.vaF g rfl
  refine ⟨⟨I.keep h.slots fun k e => heap_setCell_other _ _ _ _ fun e2 => hg.1 (by have e3 : k = g := e2; rw [e3] at e; exact e), (heap_setCell_other _ _ _ _ (fun e2 => hg.2 e2.symm)).trans h.box, by rw [valR_upd]; exact (h.vals.stored j _).1, h.tbF, h.vaF⟩, alters_set (.inr (.inl ⟨_, rfl, rfl⟩))⟩
set_option maxHeartbeats 1000000 in
set_option maxRecDepth 100000 in
theorem h_open_full (h : LieH I w tb sp σ u va vc Fs) (x : Int) (hf : σ.free = []) :
    Calls Try.prog 12 #[.pointer (some ⟨tb, 0, none⟩), .int .u32 x] w
      (fun e w' => e = .returned (.tuple #[.int .u64 0, .int .i64 2]) ∧ ∃ Fs', LieH I w' tb sp σ u va vc Fs' ∧ Alters (FootH tb va Fs) (FootH tb va Fs') w w') := by
  obtain ⟨hc0, hc1⟩ := h.cells
  go_enter Try.func12, Try.ntmps12
  go_wp2_with fail
  refine (I.alloc _ σ Fs _ h.slots).mono ?_
  rintro e w2 ⟨Fs', ha, h2, _⟩
  obtain ⟨rfl, h3⟩ := h2 hf
  have h4 := h.step ha h3 rfl
  clear hc0 hc1 ha h2 h3
  go_wp2
  go_ret2
  exact ⟨rfl, Fs', h4⟩
set_option maxHeartbeats 1000000 in
set_option maxRecDepth 100000 in
theorem h_open (h : LieH I w tb sp σ u va vc Fs) (x : Int) (j : Nat) (t : List Nat) (hf : σ.free = (j + 1) :: t) :
    Calls Try.prog 12 #[.pointer (some ⟨tb, 0, none⟩), .int .u32 x] w
      (fun e w' => e = .returned (.tuple #[.int .u64 ((σ.take (j + 1) t).hd (j + 1)), .int .i64 0]) ∧ ∃ Fs', LieH I w' tb sp (σ.take (j + 1) t) (upd u (j + 1) x) va vc Fs' ∧ Alters (FootH tb va Fs) (FootH tb va Fs') w w') := by
  have hok := h.ok
  have him := (hok.free (j + 1)).1 (by rw [hf]; simp)
  obtain ⟨hi1, hi2, hi3⟩ := him
  have hcap := hok.cap2
  have hji : (j : Int) < (σ.cap : Int) := by omega
  have hj0 : (0 : Int) ≤ (j : Int) := by omega
  have hok2 := St.take_ok hok hf
  obtain ⟨hc0, hc1⟩ := h.cells
  obtain ⟨g, rfl⟩ := row_head h.vals (by omega)
  have HF := Lib.hid hf
  have HH := Lib.hid h
  have HOK2 := Lib.hid hok2
  clear hf hi3 hok hok2 h
  go_enter Try.func12, Try.ntmps12
  go_wp2_with fail
  refine (I.alloc _ σ Fs _ HH.out.slots).mono ?_
  rintro e w2 ⟨Fs', ha, _, h2⟩
  obtain ⟨rfl, h3⟩ := h2 (j + 1) t HF.out
  obtain ⟨h4, ha4⟩ := HH.out.step ha h3 rfl
  clear hc0 hc1 ha h2 h3
  obtain ⟨hc0, hc1⟩ := h4.cells
  have hcj := (h4.vals.cellAt j (by show j < _ * 1; have : (σ.take (j + 1) t).cap = σ.cap := rfl; omega))
  have hcj2 := hcj.trans (valR_at _ u j (by show j < σ.cap; omega))
  have hfj := h4.vals.frozenAt j
  obtain ⟨h5, ha5⟩ := h4.setV j x
  rw [show (σ.take (j + 1) t).cap = σ.cap from rfl] at hc1
  obtain ⟨hd0, hd1⟩ := h5.cells
  have H5 := Lib.hid h5
  have HA := Lib.hid (ha4.trans ha5)
  clear h4 h5 ha4 ha5 hcj
  go_wp2_with fail
  refine (h_handle H5.out (j + 1) (by omega)).mono ?_
  rintro e w3 ⟨rfl, hb⟩
  have h6 := H5.out.below hb
  have ha6 := HA.out.trans (.of_below hb)
  clear hc0 hc1 hd0 hd1 hcj2 hfj
  go_wp2
  go_ret2
  exact ⟨rfl, Fs', h6, ha6⟩
set_option maxHeartbeats 1000000 in
set_option maxRecDepth 100000 in
theorem h_replace_bad (h : LieH I w tb sp σ u va vc Fs) (n x : Int) (h0 : 0 ≤ n) (h1 : n < 18446744073709551616) (he : σ.ent n = 0) :
    Calls Try.prog 17 #[.pointer (some ⟨tb, 0, none⟩), .int .u64 n, .int .u32 x] w (Calm w (.int .i64 5)) := by
  go_enter Try.func17, Try.ntmps17
  go_wp2_with fail
  refine (h_entry h n h0 h1).mono ?_
  rintro e w2 ⟨rfl, hb2⟩
  unfold EntV
  rw [show decide (σ.ent n ≠ 0) = false by simp [he]]
  go_wp2
  go_ret
  exact ⟨rfl, hb2⟩
set_option maxHeartbeats 1000000 in
set_option maxRecDepth 100000 in
theorem h_replace (h : LieH I w tb sp σ u va vc Fs) (n x : Int) (h0 : 0 ≤ n) (h1 : n < 18446744073709551616) (he : σ.ent n ≠ 0) :
    Calls Try.prog 17 #[.pointer (some ⟨tb, 0, none⟩), .int .u64 n, .int .u32 x] w
      (fun e w' => e = .returned (.int .i64 0) ∧ LieH I w' tb sp σ (upd u (σ.ent n) x) va vc Fs ∧ Alters (FootH tb va Fs) (FootH tb va Fs) w w') := by
  have hok := h.ok
  have hon := hok.on _ (ent_pos hok h0 he).1
  have hcap := hok.cap2
  have hem := ent_mod he
  obtain ⟨j, hj⟩ : ∃ j, σ.ent n = j + 1 := ⟨σ.ent n - 1, by omega⟩
  have HE := Lib.hid he
  have HEM := Lib.hid hem
  rw [hj] at hon ⊢
  have HJ := Lib.hid hj
  have hji : (j : Int) < (σ.cap : Int) := by omega
  have hj0 : (0 : Int) ≤ (j : Int) := by omega
  obtain ⟨g, rfl⟩ := row_head h.vals (by omega)
  clear he hok hem hj
  go_enter Try.func17, Try.ntmps17
  go_wp2_with fail
  refine (h_entry h n h0 h1).mono ?_
  rintro e w2 ⟨rfl, hb2⟩
  unfold EntV
  rw [show decide (σ.ent n ≠ 0) = true by simp [HE.out], HEM.out, HJ.out]
  have h2 := h.below hb2
  obtain ⟨hc0, hc1⟩ := h2.cells
  have hcj2 := (h2.vals.cellAt j (by omega)).trans (valR_at _ u j (by omega))
  have hfj := h2.vals.frozenAt j
  obtain ⟨h5, ha5⟩ := h2.setV j x
  have ha : Alters (FootH tb (some ⟨g, 0, none⟩) Fs) (FootH tb (some ⟨g, 0, none⟩) Fs) w w2 := .of_below hb2
  have HA := Lib.hid (ha.trans ha5)
  have H5 := Lib.hid h5
  clear h h2 hb2 h5 ha5 ha
  go_wp2
  go_ret
  exact ⟨rfl, H5.out, HA.out⟩
set_option maxHeartbeats 1000000 in
set_option maxRecDepth 100000 in
theorem h_close_bad (h : LieH I w tb sp σ u va vc Fs) (n : Int) (h0 : 0 ≤ n) (h1 : n < 18446744073709551616) (he : σ.ent n = 0) :
    Calls Try.prog 19 #[.pointer (some ⟨tb, 0, none⟩), .int .u64 n] w (Calm w (.tuple #[.int .u32 0, .int .i64 5])) := by
  go_enter Try.func19, Try.ntmps19
  go_wp2_with fail
  refine (h_entry h n h0 h1).mono ?_
  rintro e w2 ⟨rfl, hb2⟩
  unfold EntV
  rw [show decide (σ.ent n ≠ 0) = false by simp [he]]
  go_wp2
  go_ret2
  exact ⟨rfl, hb2⟩
set_option maxHeartbeats 1000000 in
set_option maxRecDepth 100000 in
theorem h_close (h : LieH I w tb sp σ u va vc Fs) (n : Int) (h0 : 0 ≤ n) (h1 : n < 18446744073709551616) (he : σ.ent n ≠ 0) :
    Calls Try.prog 19 #[.pointer (some ⟨tb, 0, none⟩), .int .u64 n] w
      (fun e w' => e = .returned (.tuple #[.int .u32 (u (σ.ent n)), .int .i64 0]) ∧ ∃ Fs', LieH I w' tb sp (σ.put (σ.ent n)) u va vc Fs' ∧ Alters (FootH tb va Fs) (FootH tb va Fs') w w') := by
  have hok := h.ok
  have hent := (ent_pos hok h0 he).1
  have hon := hok.on _ hent
  have hcap := hok.cap2
  have hem := ent_mod he
  obtain ⟨j, hj⟩ : ∃ j, σ.ent n = j + 1 := ⟨σ.ent n - 1, by omega⟩
  have HE := Lib.hid he
  have HEM := Lib.hid hem
  rw [hj] at hon hent ⊢
  have HJ := Lib.hid hj
  have HON := Lib.hid hent
  have hji : (j : Int) < (σ.cap : Int) := by omega
  have hj0 : (0 : Int) ≤ (j : Int) := by omega
  obtain ⟨g, rfl⟩ := row_head h.vals (by omega)
  clear he hok hem hj hent
  go_enter Try.func19, Try.ntmps19
  go_wp2_with fail
  refine (h_entry h n h0 h1).mono ?_
  rintro e w2 ⟨rfl, hb2⟩
  unfold EntV
  rw [show decide (σ.ent n ≠ 0) = true by simp [HE.out], HEM.out, HJ.out]
  have h2 := h.below hb2
  have ha : Alters (FootH tb (some ⟨g, 0, none⟩) Fs) (FootH tb (some ⟨g, 0, none⟩) Fs) w w2 := .of_below hb2
  obtain ⟨hc0, hc1⟩ := h2.cells
  have H2 := Lib.hid h2
  clear h hb2 h2
  go_wp2_with fail
  refine (I.release _ σ Fs (j + 1) _ H2.out.slots (by omega)).mono ?_
  rintro e w3 ⟨Fs', ha3, _, h3⟩
  obtain ⟨rfl, h4⟩ := h3 HON.out
  obtain ⟨h5, ha5⟩ := H2.out.step ha3 h4 rfl
  clear hc0 hc1 ha3 h3 h4
  obtain ⟨hc0, hc1⟩ := h5.cells
  rw [show (σ.put (j + 1)).cap = σ.cap from rfl] at hc1
  have hcj2 := (h5.vals.cellAt j (by show j < σ.cap * 1; omega)).trans (valR_at _ u j (by show j < σ.cap; omega))
  have H5 := Lib.hid h5
  have HA := Lib.hid (ha.trans ha5)
  clear h5 ha5 ha
  go_wp2
  go_ret2
  exact ⟨rfl, Fs', H5.out, HA.out⟩
set_option maxHeartbeats 1000000 in
set_option maxRecDepth 100000 in
theorem h_new_bad (I : Impl) (n : Int) (w : World) (h1 : -9223372036854775808 ≤ n) (h2 : n ≤ 9223372036854775807) (h : n < 1 ∨ 4096 < n) :
    Calls Try.prog 8 #[.int .i64 n] w (Calm w (.tuple #[.pointer none, .int .i64 1])) := by
  rcases (show 4096 < n ∨ n < 1 by omega) with hn | hn
  · clear h
    go_enter Try.func8, Try.ntmps8
    go_wp2
    go_ret2
    exact ⟨rfl, Below.refl _ _⟩
  · have hm : n ≤ 4096 := by omega
    clear h
    go_enter Try.func8, Try.ntmps8
    go_wp2_with fail
    refine (I.new_bad n _ h1 h2 (.inl hn)).mono ?_
    rintro e w1 ⟨rfl, hb⟩
    go_wp2
    go_ret2
    exact ⟨rfl, hb⟩
end
def HNew (I : Impl) (w : World) (n : Nat) (e : Ending) (w' : World) : Prop :=
  ∃ (tb : Nat) (sp : Addr) (va : Option Addr) (Fs : Nat → Prop), e = .returned (.tuple #[.pointer (some ⟨tb, 0, none⟩), .int .i64 0]) ∧ LieH I w' tb sp (St.init n) (fun _ => 0) va n Fs ∧ (∀ k, FootH tb va Fs k → w.heap.size ≤ k) ∧ Below w.heap.size w w'
set_option maxHeartbeats 2000000 in
set_option maxRecDepth 100000 in
theorem h_new (I : Impl) (n : Nat) (w : World) (h1 : 1 ≤ n) (h2 : n ≤ 4096) : Calls Try.prog 8 #[.int .i64 (n : Int)] w (HNew I w n) := by
  obtain ⟨i0, hi, hz0, hz1, hz2⟩ := info_parts u32sInfo
  have hni : (n : Int) ≤ 4096 := by omega
  have hni1 : (1 : Int) ≤ (n : Int) := by omega
  have hni2 : ¬ n = 0 := by omega
  go_enter Try.func8, Try.ntmps8
  go_wp2_with fail
  refine (I.new_ok n _ h1 (by omega)).mono ?_
  rintro e w1 ⟨p, Fs, rfl, hs, hF, hb⟩
  obtain ⟨sp, rfl⟩ := I.ptr hs
  go_wp2_with (refine wpList_make_full _ rfl (.tmp 17) (.tmp 17) 35 rfl 0 32 i0 (.int .u32 0) 1 Try.underlying35 hi hz0 hz1 .i64 .i64 (n : Int) (n : Int) n rfl rfl rfl rfl (by rw [hz2]; omega) (by unfold maxLen; omega) (Nat.zero_le _) ?_; intro w2 ho2 hg2)
  go_ret2
  have hb2 : Below w1.heap.size w1 w2 := (Below.refl _ _).grown hg2 (Nat.le_refl _) (fun k hk => by cases hk)
  have hal := (Below.refl w2.heap.size w2).alloc (Nat.le_refl _) (Obj.cells #[Value.pointer (some sp), Value.slice (some ⟨w1.heap.size, 0, none⟩) n n] 66)
  have hs12 := hb2.size
  have hb3 := hb2.trans (hal.mono hs12)
  have hlt := (row_lt ho2 w1.heap.size rfl).2
  have hs01 := hb.size
  rw [show (madeCells (Value.int .u32 0).cells (n * 1)).toList = valR (St.init n).cap (fun _ => 0) by rw [Nat.mul_one]; exact (made_list _ n).trans (valR_zero n).symm] at ho2
  refine ⟨w2.heap.size, sp, some ⟨w1.heap.size, 0, none⟩, Fs, rfl, ⟨I.below hs hb3, heap_alloc_new w2 _, row_below ho2 hal, fun hf => ?_, fun k hk => ?_⟩, fun k hk => ?_, hb.trans (hb3.mono hs01)⟩
  · have := I.dom hs _ hf; omega
  · simp [Value.ownBlock] at hk
    subst hk
    exact ⟨fun hf => by have := I.dom hs _ hf; omega, by omega⟩
  · rcases hk with rfl | ⟨x, hx, rfl⟩ | hk
    · omega
    · simp at hx; subst hx; exact hs01
    · exact hF k hk
end Go.Proofs.Ytnikbnbmbifcjaa
