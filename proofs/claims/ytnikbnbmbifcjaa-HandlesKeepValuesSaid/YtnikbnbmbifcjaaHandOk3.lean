/- The program's table of handles: Handles, and all of it together. -/
import Derived.Test.YtnikbnbmbifcjaaHandOk2
set_option linter.unusedVariables false
namespace Go.Proofs.Ytnikbnbmbifcjaa
open Go.RowKit
section
variable {I : Impl} {w w' : World} {tb : Nat} {sp : Addr} {σ σ' : St} {u : Nat → Int} {va : Option Addr} {vc : Nat} {Fs Fs' : Nat → Prop}
set_option maxHeartbeats 2000000 in
set_option maxRecDepth 100000 in
theorem h_handles (h : LieH I w tb sp σ u va vc Fs) : Calls Try.prog 24 #[.pointer (some ⟨tb, 0, none⟩)] w (THandles w σ) := by
  obtain ⟨i0, ji, jz0, jz1, jz2⟩ := info_parts u64sInfo
  have hcap := h.ok.cap2
  have hol := opened_len h.ok
  have hci : (σ.cap : Int) ≤ 65536 := by omega
  have hcw : IntKind.u32.wrap (σ.cap : Int) = (σ.cap : Int) := by rw [IntKind.wrap_u32']; omega
  have HH := Lib.hid h
  obtain ⟨N, hN⟩ : ∃ N, N = σ.opened.length := ⟨_, rfl⟩
  have HN := Lib.hid hN
  have hNc : N ≤ 65536 := by omega
  clear h hol hN
  go_enter Try.func24, Try.ntmps24
  go_wp2_with fail
  refine (h_len HH.out).mono ?_
  rintro e w1 ⟨rfl, hb1⟩
  rw [← HN.out]
  have hs1 := hb1.size
  go_wp2_with (refine wpList_make_own _ rfl (.const (.int .i64 0)) (.tmp 7) 42 rfl w.heap.size 29 i0 (.int .u64 0) 1 Try.underlying42 ji jz0 jz1 .i64 .i64 (N : Int) N rfl rfl rfl (by rw [jz2]; omega) (by unfold maxLen; omega) hs1 ?_; intro w2 ho2 hg2; have hb2 : Below w.heap.size w w2 := hb1.grown hg2 hs1 (fun k hk => by cases hk); obtain ⟨hc0, hc1⟩ := (HH.out.below hb2).cells)
  clear hc0 hc1 hg2
  go_loopw [3, 14] (fun x i wr => ∃ k : Nat, k ≤ σ.cap ∧ i = .int .i64 (k : Int) ∧ wr.ownsRow w.heap.size 29 1 x (σ.upto k).length (u64s (σ.upto k)) ∧ Below w.heap.size w wr) (fun _ i _ => σ.cap - (intOf i).toNat)
  case atStart => exact ⟨0, Nat.zero_le _, rfl, ho2, hb2⟩
  case round =>
    clear ho2 hb2
    obtain ⟨k, hk, rfl, ho, hb⟩ := hrel
    have hl := HH.out.below hb
    have hsz := hb.size
    have hlen := upto_len σ k
    by_cases hlt : k < σ.cap
    · have hki : (k : Int) < (σ.cap : Int) := by omega
      have hkw : IntKind.u32.wrap ((k : Int) + 1) = (k : Int) + 1 := by rw [IntKind.wrap_u32']; omega
      have hki2 : (k : Int) < 65536 := by omega
      obtain ⟨hc0, hc1⟩ := hl.cells
      go_wp2_with fail
      refine (I.allocated _ σ Fs (k + 1) _ hl.slots (by omega)).mono ?_
      rintro e w3 ⟨rfl, q3, rfl⟩
      have hb3 := below_drewN hb q3
      have ho3 := row_below ho (below_drewN (Below.refl _ _) q3)
      generalize wr.drewN q3 = w3 at hb3 ho3 ⊢
      have hl3 := HH.out.below hb3
      clear hc0 hc1 ho hb hl
      obtain ⟨hc0, hc1⟩ := hl3.cells
      by_cases hon : σ.on (k + 1) = true
      · have hup := upto_on hon
        have HUP := Lib.hid hup
        rw [hon]
        clear hup hon
        go_wp2_with fail
        refine (h_handle hl3 (k + 1) (by omega)).mono ?_
        rintro e w4 ⟨rfl, hb4'⟩
        have hb4 := hb3.trans (hb4'.mono hb3.size)
        have ho4 := row_below ho3 hb4'
        clear hc0 hc1 ho3 hb3 hl3 hb4'
        generalize σ.hd (k + 1) = Y at HUP ⊢
        have hal := (Below.refl w4.heap.size w4).alloc (Nat.le_refl _) (Obj.cells #[Value.int .u64 Y] 29)
        have ho5 := row_below ho4 hal
        have hb5 := hb4.trans (hal.mono hb4.size)
        have hsz5 := hb5.size
        generalize σ.upto k = L at HUP hlen ho5
        clear ho4 hb4 hal
        go_wp2_with (at_builtin; refine wpList_append_own _ rfl (.tmp 26) (.tmp 30) 42 rfl w.heap.size 29 i0 (.int .u64 0) 1 8 Try.underlying42 ji jz0 jz1 jz2 rfl (by decide) _ L.length (u64s L) rfl ho5 ⟨w4.heap.size, 0, none⟩ 1 1 [.int .u64 Y] rfl rfl (cell_new1 _ _ _) (one_cell1 _ _) (by unfold maxLen; omega) (by omega) hsz5 ?_; intro v2 w6 ho6 hg6 _)
        have hb6 : Below w.heap.size w w6 := hb5.grown hg6 hsz5 (row_from ho5)
        refine ⟨⟨k + 1, by omega, by go_num, ?_, hb6⟩, by simp [intOf]; omega⟩
        rw [HUP.out, u64s_snoc, List.length_append]
        exact ho6
      · have hon' : σ.on (k + 1) = false := by simpa using hon
        have hup := upto_off hon'
        have HUP := Lib.hid hup
        rw [hon']
        clear hup hon hon'
        go_wp2
        refine ⟨⟨k + 1, by omega, by go_num, ?_, hb3⟩, by simp [intOf]; omega⟩
        rw [HUP.out]
        exact ho3
    · obtain rfl : k = σ.cap := by omega
      rw [upto_all] at ho
      obtain ⟨xa, xc, rfl⟩ := row_val ho
      go_wp2
      go_ret
      exact ⟨xa, xc, rfl, ho, hb⟩
end
/-- the representation, open entries' values alone fixed -/
def IsH (I : Impl) (w : World) (p : Value) (σ : St) (v : Nat → Int) (F : Nat → Prop) : Prop :=
  ∃ (tb : Nat) (sp : Addr) (u : Nat → Int) (va : Option Addr) (vc : Nat) (Fs : Nat → Prop), p = .pointer (some ⟨tb, 0, none⟩) ∧ LieH I w tb sp σ u va vc Fs ∧ (∀ i, σ.on i = true → u i = v i) ∧ ∀ k, F k ↔ FootH tb va Fs k
theorem upd_on {σ : St} {v u : Nat → Int} {E : Nat} {y : Int} (h : ∀ i, σ.on i = true → u i = v i) : ∀ i, σ.on i = true → upd u E y i = upd v E y i := by
  intro i hi
  unfold upd
  split
  · rfl
  · exact h i hi
theorem upd_take {σ : St} {v u : Nat → Int} {i : Nat} {t : List Nat} {y : Int} (h : ∀ j, σ.on j = true → u j = v j) : ∀ j, (σ.take i t).on j = true → upd u i y j = upd v i y j := by
  intro j hj
  unfold upd
  split
  · rfl
  · rename_i e
    exact h j (by simpa [St.take, e] using hj)
theorem put_on {σ : St} {E i : Nat} (hi : (σ.put E).on i = true) : σ.on i = true := by
  by_cases e : i = E
  · simp [St.put, e] at hi
  · simp [St.put, e] at hi; exact hi
def handImpl : HImpl where
  Is := IsH slotsImpl
  dom := fun h k hk => by
    obtain ⟨tb, sp, u, va, vc, Fs, rfl, hl, ha, hF⟩ := h
    exact hl.dom k ((hF k).1 hk)
  keep := fun h hk => by
    obtain ⟨tb, sp, u, va, vc, Fs, rfl, hl, ha, hF⟩ := h
    exact ⟨tb, sp, u, va, vc, Fs, rfl, hl.keep fun k h1 => hk k ((hF k).2 h1), ha, hF⟩
  ok := fun h => by
    obtain ⟨tb, sp, u, va, vc, Fs, rfl, hl, ha, hF⟩ := h
    exact hl.ok
  ptr := fun h => by
    obtain ⟨tb, sp, u, va, vc, Fs, rfl, hl, ha, hF⟩ := h
    exact ⟨_, rfl⟩
  new_ok := fun n w h1 h2 => (h_new slotsImpl n w h1 h2).mono fun e w1 ⟨tb, sp, va, Fs, he, hl, hf, hb⟩ => ⟨_, FootH tb va Fs, he, ⟨tb, sp, _, va, n, Fs, rfl, hl, fun _ _ => rfl, fun k => Iff.rfl⟩, hf, hb⟩
  new_bad := h_new_bad slotsImpl
  opens := fun p σ v F x w h h0 h1 => by
    obtain ⟨tb, sp, u, va, vc, Fs, rfl, hl, ha, hF⟩ := h
    obtain rfl : F = FootH tb va Fs := funext fun k => propext (hF k)
    rcases (show σ.free = [] ∨ ∃ i t, σ.free = i :: t by cases σ.free with | nil => exact .inl rfl | cons i t => exact .inr ⟨i, t, rfl⟩) with hf | ⟨i, t, hf⟩
    · refine (h_open_full hl x hf).mono ?_
      rintro e w1 ⟨rfl, Fs', hl', hal⟩
      exact ⟨FootH tb va Fs', hal, fun _ => ⟨rfl, ⟨tb, sp, u, va, vc, Fs', rfl, hl', ha, fun k => Iff.rfl⟩⟩, fun i t h => by rw [hf] at h; cases h⟩
    · have him := (hl.ok.free i).1 (by rw [hf]; simp)
      obtain ⟨j, rfl⟩ : ∃ j, i = j + 1 := ⟨i - 1, by omega⟩
      refine (h_open hl x j t hf).mono ?_
      rintro e w1 ⟨rfl, Fs', hl', hal⟩
      refine ⟨FootH tb va Fs', hal, fun h => (by rw [hf] at h; cases h), fun i' t' h => ?_⟩
      rw [hf] at h
      simp only [List.cons.injEq] at h
      obtain ⟨rfl, rfl⟩ := h
      exact ⟨rfl, ⟨tb, sp, _, va, vc, Fs', rfl, hl', upd_take ha, fun k => Iff.rfl⟩⟩
  lookup := fun p σ v F n w h h0 h1 => by
    obtain ⟨tb, sp, u, va, vc, Fs, rfl, hl, ha, hF⟩ := h
    refine (h_lookup hl n h0 h1).mono ?_
    rintro e w1 ⟨he, hb⟩
    refine ⟨he.trans ?_, hb⟩
    by_cases hn : σ.ent n = 0
    · rw [if_pos hn, if_pos hn]
    · rw [if_neg hn, if_neg hn, ha _ (ent_pos hl.ok h0 hn).1]
  replace := fun p σ v F n x w h h0 h1 h2 h3 => by
    obtain ⟨tb, sp, u, va, vc, Fs, rfl, hl, ha, hF⟩ := h
    obtain rfl : F = FootH tb va Fs := funext fun k => propext (hF k)
    by_cases hn : σ.ent n = 0
    · refine (h_replace_bad hl n x h0 h1 hn).mono ?_
      rintro e w1 ⟨rfl, hb⟩
      exact ⟨FootH tb va Fs, .of_below hb, fun _ => ⟨rfl, ⟨tb, sp, u, va, vc, Fs, rfl, hl.below hb, ha, fun k => Iff.rfl⟩⟩, fun h => absurd hn h⟩
    · refine (h_replace hl n x h0 h1 hn).mono ?_
      rintro e w1 ⟨rfl, hl', hal⟩
      exact ⟨FootH tb va Fs, hal, fun h => absurd h hn, fun _ => ⟨rfl, ⟨tb, sp, _, va, vc, Fs, rfl, hl', upd_on ha, fun k => Iff.rfl⟩⟩⟩
  close := fun p σ v F n w h h0 h1 => by
    obtain ⟨tb, sp, u, va, vc, Fs, rfl, hl, ha, hF⟩ := h
    obtain rfl : F = FootH tb va Fs := funext fun k => propext (hF k)
    by_cases hn : σ.ent n = 0
    · refine (h_close_bad hl n h0 h1 hn).mono ?_
      rintro e w1 ⟨rfl, hb⟩
      exact ⟨FootH tb va Fs, .of_below hb, fun _ => ⟨rfl, ⟨tb, sp, u, va, vc, Fs, rfl, hl.below hb, ha, fun k => Iff.rfl⟩⟩, fun h => absurd hn h⟩
    · refine (h_close hl n h0 h1 hn).mono ?_
      rintro e w1 ⟨rfl, Fs', hl', hal⟩
      exact ⟨FootH tb va Fs', hal, fun h => absurd h hn, fun _ => ⟨by rw [ha _ (ent_pos hl.ok h0 hn).1], ⟨tb, sp, u, va, vc, Fs', rfl, hl', fun i hi => ha i (put_on hi), fun k => Iff.rfl⟩⟩⟩
  len := fun p σ v F w h => by
    obtain ⟨tb, sp, u, va, vc, Fs, rfl, hl, ha, hF⟩ := h
    exact h_len hl
  handles := fun p σ v F w h => by
    obtain ⟨tb, sp, u, va, vc, Fs, rfl, hl, ha, hF⟩ := h
    exact h_handles hl
end Go.Proofs.Ytnikbnbmbifcjaa
