/- The program's allocator: Release. -/
import Derived.Test.YtnmookemeibioaaSlotsOk2
import Derived.Test.YtnmookemeibioaaRefSlots5
import Derived.Maps.AppendAt
set_option linter.unusedVariables false
namespace Go.Proofs.Ytnmookemeibioaa
open Go.RowKit
section
variable {w w' : World} {pb : Nat} {σ : St} {st : List Nat} {us : Nat} {sa ra : Option Addr} {sc rc : Nat} {F F1 F2 : Nat → Prop}
theorem Alters.trans {w1 w2 : World} (h : Alters F F1 w w1) (h2 : Alters F1 F2 w1 w2) : Alters F F2 w w2 := by
  refine ⟨h2.os.trans h.os, h2.tape.trans h.tape, h2.output.trans h.output, Nat.le_trans h.size h2.size, fun k hk hf => ?_, fun k hk => ?_⟩
  · rw [h2.block k (Nat.lt_of_lt_of_le hk h.size) fun h1 => ?_, h.block k hk hf]
    rcases h.foot k h1 with h3 | h3
    · exact hf h3
    · omega
  · rcases h2.foot k hk with h1 | h1
    · exact h.foot k h1
    · exact .inr (Nat.le_trans h.size h1)
theorem alters_set {a : Addr} {v : Value} (hF : F a.block) : Alters F F w (w.setCell a v) :=
  ⟨rfl, rfl, rfl, by rw [size_set]; exact Nat.le_refl _, fun k _ hf => heap_setCell_other _ _ _ _ fun e => hf (e ▸ hF), fun _ h => .inl h⟩
theorem alters_alloc {ob : Obj} : Alters F F w (w.alloc ob) := .of_below ((Below.refl _ _).alloc (Nat.le_refl _) ob)
theorem alters_drewN {q : Nat} : Alters F F w (w.drewN q) := .of_below (below_drewN (Below.refl _ _) q)
theorem alters_grown {row : Option Nat} (hg : w.grownBy w' row) (hr : ∀ k, row = some k → F k) : Alters F F w w' :=
  ⟨hg.os, hg.tape, hg.output, hg.size, fun k hk hf => hg.block k hk fun e => hf (hr k e.symm), fun _ h => .inl h⟩
theorem Alters.refoot (h : Alters F F1 w w') (hf : ∀ k, F2 k → F k ∨ w.heap.size ≤ k) : Alters F F2 w w' := ⟨h.os, h.tape, h.output, h.size, h.block, hf⟩
/-- the box and its two rows, whatever they hold -/
structure Raw (w : World) (pb n : Nat) (xs : List Value) (st : List Nat) (u : Value) (sa ra : Option Addr) (sc rc : Nat) : Prop where
  box : w.heap[pb]? = some (.cells #[.slice sa n sc, .slice ra st.length rc, u] 99 (0, 0))
  states : w.ownsRow 0 101 2 (.slice sa n sc) n xs
  stack : w.ownsRow 0 41 1 (.slice ra st.length rc) st.length (u32s st)
  ne1 : (Value.slice sa n sc).ownBlock ≠ some pb
  ne2 : (Value.slice ra st.length rc).ownBlock ≠ some pb
theorem Lie.raw (h : Lie w pb σ st us sa ra sc rc) : Raw w pb σ.cap (sts σ) st (.int .i64 (us : Int)) sa ra sc rc :=
  ⟨h.box, h.states, h.stack, h.ne1, h.ne2⟩
theorem Raw.lie (h : Raw w pb σ.cap (sts σ) st (.int .i64 (us : Int)) sa ra sc rc) (ok : σ.Ok) (free : σ.free = st.reverse ++ List.range' (us + 1) (σ.cap - us)) (us1 : us ≤ σ.cap) :
    Lie w pb σ st us sa ra sc rc := ⟨ok, free, us1, h.box, h.states, h.stack, h.ne1, h.ne2⟩
section
variable {n : Nat} {xs : List Value} {u : Value} {ra' : Option Addr} {rc' : Nat}
theorem Raw.cells (h : Raw w pb n xs st u sa ra sc rc) :
    w.cell? ⟨pb, 0, none⟩ = some (.slice sa n sc) ∧ w.cell? ⟨pb, 1, none⟩ = some (.slice ra st.length rc) ∧ w.cell? ⟨pb, 2, none⟩ = some u := by
  refine ⟨?_, ?_, ?_⟩ <;> (rw [cell_of_row _ _ _ _ _ _ h.box]; rfl)
theorem Raw.lt (h : Raw w pb n xs st u sa ra sc rc) : pb < w.heap.size := (Array.getElem?_eq_some_iff.1 h.box).1
theorem Raw.below (h : Raw w pb n xs st u sa ra sc rc) (hb : Below w.heap.size w w') : Raw w' pb n xs st u sa ra sc rc :=
  ⟨(hb.block pb h.lt).trans h.box, row_below h.states hb, row_below h.stack hb, h.ne1, h.ne2⟩
theorem Raw.setSt {g : Nat} (h : Raw w pb n xs st u (some ⟨g, 0, none⟩) ra sc rc) (j : Nat) (x : Value) : Raw (w.setCell ⟨g, j, none⟩ x) pb n (xs.set j x) st u (some ⟨g, 0, none⟩) ra sc rc := by
  refine ⟨?_, (h.states.stored j x).1, row_cellset h.stack fun e => row_ne (by decide) h.stack h.states g e rfl, h.ne1, h.ne2⟩
  rw [heap_setCell_other _ _ _ _ (fun e => h.ne1 (by rw [e]; rfl))]
  exact h.box
theorem Raw.setU (h : Raw w pb n xs st u sa ra sc rc) (u' : Value) : Raw (w.setCell ⟨pb, 2, none⟩ u') pb n xs st u' sa ra sc rc :=
  ⟨by rw [heap_setCell_same _ _ _ _ _ _ h.box]; rfl, row_cellset h.states h.ne1, row_cellset h.stack h.ne2, h.ne1, h.ne2⟩
theorem Raw.pop {X : Nat} (h : Raw w pb n xs (st ++ [X]) u sa ra sc rc) : Raw (w.setCell ⟨pb, 1, none⟩ (.slice ra st.length rc)) pb n xs st u sa ra sc rc := by
  have hl : (st ++ [X]).length = st.length + 1 := by simp
  have hp := row_pre h.stack (m := st.length) (by omega) (by omega)
  have e1 : (u32s (st ++ [X])).take st.length = u32s st := by rw [u32s_snoc, List.take_left' (by simp [u32s])]
  rw [e1] at hp
  have hn1 : (Value.slice ra st.length rc).ownBlock ≠ some pb := fun e => h.ne2 (by cases ra <;> simp [Value.ownBlock] at e ⊢ <;> exact e)
  exact ⟨by rw [heap_setCell_same _ _ _ _ _ _ h.box]; rfl, row_cellset h.states h.ne1, row_cellset hp hn1, h.ne1, hn1⟩
theorem Raw.after (h : Raw w pb n xs st u sa ra sc rc) (hg : w.grownBy w' (Value.slice ra st.length rc).ownBlock) : w'.cell? ⟨pb, 1, none⟩ = some (.slice ra st.length rc) ∧ w'.frozen? ⟨pb, 1, none⟩ = false := by
  have hbx := (hg.block pb h.lt fun e => h.ne2 e.symm).trans h.box
  exact ⟨by rw [cell_of_row _ _ _ _ _ _ hbx]; rfl, frozen_of_row w' pb 1 _ _ hbx⟩
theorem Raw.push {X : Nat} (h : Raw w pb n xs st u sa ra sc rc) (hg : w.grownBy w' (Value.slice ra st.length rc).ownBlock) (hr : w'.ownsRow 0 41 1 (.slice ra' (st.length + 1) rc') (st.length + 1) (u32s (st ++ [X])))
    (hb : (Value.slice ra' (st.length + 1) rc').ownBlock = (Value.slice ra st.length rc).ownBlock ∨ (Value.slice ra' (st.length + 1) rc').ownBlock = some w.heap.size) :
    Raw (w'.setCell ⟨pb, 1, none⟩ (.slice ra' (st.length + 1) rc')) pb n xs (st ++ [X]) u sa ra' sc rc' := by
  have hl : (st ++ [X]).length = st.length + 1 := by simp
  have hlt := h.lt
  have hbx := (hg.block pb h.lt fun e => h.ne2 e.symm).trans h.box
  have hst : w'.ownsRow 0 101 2 (.slice sa n sc) n xs := row_keep h.states fun k hk => hg.block k (row_lt h.states k hk).2 fun e => row_ne (by decide) h.states h.stack k hk e.symm
  have hn1 : (Value.slice ra' (st.length + 1) rc').ownBlock ≠ some pb := fun e => by
    rcases hb with h1 | h1
    · exact h.ne2 (h1.symm.trans e)
    · rw [h1] at e; simp at e; omega
  refine ⟨?_, row_cellset hst h.ne1, by rw [hl]; exact row_cellset hr hn1, h.ne1, by rw [hl]; exact hn1⟩
  rw [heap_setCell_same _ _ _ _ _ _ hbx, hl]; rfl
end
set_option maxHeartbeats 1000000 in
set_option maxRecDepth 100000 in
theorem s_release_off (h : Lie w pb σ st us sa ra sc rc) (i : Nat) (hi : i < 4294967296) (ho : σ.on i = false) :
    Calls Try.prog 63 #[.pointer (some ⟨pb, 0, none⟩), .int .u32 (i : Int)] w (fun e w' => e = .returned (.int .i64 3) ∧ ∃ q, w' = w.drewN q) := by
  go_enter Try.func63, Try.ntmps63
  go_wp2_with fail
  refine (s_allocated h i hi).mono ?_
  rintro e w1 ⟨rfl, q, rfl⟩
  rw [ho]
  go_wp2
  go_ret
  exact ⟨rfl, q, rfl⟩
theorem sts_put (σ : St) (j : Nat) : sts (σ.put (j + 1)) = (sts σ).set (j * 2) (.bool false) := by
  apply List.ext_getElem
  · simp [sts, St.put]
  · intro k h2 h3
    rw [List.getElem_set]
    by_cases e : j * 2 = k
    · subst e
      simp [sts, St.put]
    · rw [if_neg e]
      by_cases hp : k % 2 = 0
      · have : ¬ k / 2 = j := by omega
        simp [sts, St.put, hp, this]
      · simp [sts, St.put, hp]
theorem sts_take (σ : St) (j : Nat) (t : List Nat) : sts (σ.take (j + 1) t) = ((sts σ).set (j * 2) (.bool true)).set (j * 2 + 1) (.int .u32 ((σ.gen (j + 1) + 1) % 4294967296)) := by
  apply List.ext_getElem
  · simp [sts, St.take]
  · intro k h2 h3
    rw [List.getElem_set, List.getElem_set]
    by_cases e : j * 2 + 1 = k
    · subst e
      have h4 : (j * 2 + 1) % 2 = 1 := by omega
      have h5 : (j * 2 + 1) / 2 = j := by omega
      simp [sts, St.take, h4, h5]
    · rw [if_neg e]
      by_cases e : j * 2 = k
      · subst e
        simp [sts, St.take]
      · rw [if_neg e]
        have : ¬ k / 2 = j := by omega
        simp [sts, St.take, this]
theorem foot_own {n c : Nat} {a : Option Addr} {k : Nat} (h : (Value.slice a n c).ownBlock = some k) : ∃ x, a = some x ∧ x.block = k := by
  cases a with
  | none => simp [Value.ownBlock] at h
  | some x => simp [Value.ownBlock] at h; exact ⟨x, rfl, h⟩
def SPut (w : World) (pb : Nat) (σ : St) (st : List Nat) (us : Nat) (sa ra : Option Addr) (sc i : Nat) (e : Ending) (w' : World) : Prop :=
  e = .returned (.int .i64 0) ∧ ∃ (ra' : Option Addr) (rc' : Nat), Lie w' pb (σ.put i) (st ++ [i]) us sa ra' sc rc' ∧ Alters (Foot pb sa ra) (Foot pb sa ra') w w'
set_option maxHeartbeats 2000000 in
set_option maxRecDepth 100000 in
theorem s_release_on (h : Lie w pb σ st us sa ra sc rc) (j : Nat) (hi : j + 1 < 4294967296) (ho : σ.on (j + 1) = true) :
    Calls Try.prog 63 #[.pointer (some ⟨pb, 0, none⟩), .int .u32 ((j + 1 : Nat) : Int)] w (SPut w pb σ st us sa ra sc (j + 1)) := by
  have hic := h.ok.on (j + 1) ho
  obtain ⟨i0, ji, jz0, jz1, jz2⟩ := info_parts u32sInfo
  have hcap := h.ok.cap2
  have hst := h.stlen.2
  have hsi : (st.length : Int) ≤ 65536 := by omega
  have hii : (j : Int) < (σ.cap : Int) := by omega
  have hj0 : (0 : Int) ≤ (j : Int) := by omega
  have HR := Lib.hid h.raw
  obtain ⟨go, rfl⟩ := row_head2 h.states (by omega)
  go_enter Try.func63, Try.ntmps63
  go_wp2_with fail
  refine (s_allocated h (j + 1) hi).mono ?_
  rintro e w1 ⟨rfl, q, rfl⟩
  rw [ho]
  have hR1 := HR.out.below (below_drewN (Below.refl _ _) q)
  have hA1 : Alters (Foot pb (some ⟨go, 0, none⟩) ra) (Foot pb (some ⟨go, 0, none⟩) ra) w (w.drewN q) := alters_drewN
  have HON := Lib.hid ho
  have HOK := Lib.hid h.ok
  have HLIE := Lib.hid h
  obtain ⟨hc0, hc1, hc2⟩ := hR1.cells
  have hfo := hR1.states.frozenAt (j * 2)
  have hco := (hR1.states.cellAt (j * 2) (by omega)).trans (sts_at0 σ j (by omega))
  generalize w.drewN q = w1 at hR1 hc0 hc1 hc2 hfo hco hA1 ⊢
  have HA := Lib.hid hA1
  clear hA1
  have hR2 := hR1.setSt (j * 2) (.bool false)
  obtain ⟨hd0, hd1, hd2⟩ := hR2.cells
  have hal := (Below.refl _ (w1.setCell ⟨go, j * 2, none⟩ (.bool false))).alloc (Nat.le_refl _) (Obj.cells #[Value.int .u32 ((j + 1 : Nat) : Int)] 41)
  have hR3 := hR2.below hal
  have HS := Lib.hid hR3.stack
  have hnew := cell_new1 (w1.setCell ⟨go, j * 2, none⟩ (.bool false)) (.int .u32 ((j + 1 : Nat) : Int)) 41
  rw [size_set] at hnew
  have HNEW := Lib.hid hnew
  clear h ho hnew
  go_wp2_with (at_builtin; refine wpList_append_own_at _ rfl (.tmp 21) (.tmp 23) 33 rfl 0 41 i0 (.int .u32 0) 1 4 Try.underlying33 ji jz0 jz1 jz2 rfl (by decide) _ st.length (u32s st) rfl HS.out ⟨w1.heap.size, 0, none⟩ 1 1 [.int .u32 ((j + 1 : Nat) : Int)] rfl rfl HNEW.out (one_cell1 _ _) (by unfold maxLen; omega) (by omega) (Nat.zero_le _) ?_; intro v2 w5 ho5 hg5 _ hb5; obtain ⟨va, vc, rfl⟩ := row_val ho5; obtain ⟨hf1, hf2⟩ := hR3.after hg5)
  go_ret
  refine ⟨rfl, va, vc, ?_, ?_⟩
  · have hp := hR3.push (X := j + 1) hg5 (by rw [u32s_snoc]; exact ho5) hb5
    rw [← sts_put] at hp
    refine Raw.lie (σ := σ.put (j + 1)) hp (St.put_ok HOK.out HON.out) ?_ HLIE.out.us1
    show (j + 1) :: σ.free = _
    rw [HLIE.out.free]; simp [St.put]
  · have h1 : Alters (Foot pb (some ⟨go, 0, none⟩) ra) (Foot pb (some ⟨go, 0, none⟩) ra) w w1 := HA.out
    have hb : Foot pb (some ⟨go, 0, none⟩) ra pb := .inl rfl
    have h2 := h1.trans ((alters_set (a := ⟨go, j * 2, none⟩) (v := .bool false) (.inr (.inl ⟨_, rfl, rfl⟩))).trans (alters_alloc.trans ((alters_grown hg5 fun k hk => .inr (.inr (foot_own hk))).trans (alters_set (a := ⟨pb, 1, none⟩) (v := .slice va (st.length + 1) vc) hb))))
    refine h2.refoot fun k hk => ?_
    rcases hk with rfl | hk | hk
    · exact .inl (.inl rfl)
    · exact .inl (.inr (.inl hk))
    · obtain ⟨x, rfl, rfl⟩ := hk
      rcases hb5 with h3 | h3
      · exact .inl (.inr (.inr (foot_own h3.symm)))
      · simp [Value.ownBlock] at h3
        have := h1.size
        exact .inr (by omega)
end
end Go.Proofs.Ytnmookemeibioaa
