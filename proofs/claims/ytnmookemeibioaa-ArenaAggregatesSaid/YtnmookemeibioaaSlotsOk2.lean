/- The program's allocator: Order. -/
import Derived.Test.YtnmookemeibioaaSlotsOk1
import Derived.Test.YtnmookemeibioaaRefSlots
set_option linter.unusedVariables false
namespace Go.Proofs.Ytnmookemeibioaa
open Go.RowKit
section
variable {w w' : World} {pb : Nat} {σ : St} {st : List Nat} {us : Nat} {sa ra : Option Addr} {sc rc : Nat}
theorem Lie.below (h : Lie w pb σ st us sa ra sc rc) (hb : Below w.heap.size w w') : Lie w' pb σ st us sa ra sc rc := h.keep (below_foot hb h.dom)
def OutB (B : Nat) (w1 : World) (l : List Nat) (x : Value) (wr : World) : Prop := wr.ownsRow B 41 1 x l.length (u32s l) ∧ Below B w1 wr
set_option maxHeartbeats 2000000 in
set_option maxRecDepth 100000 in
theorem s_order (h : Lie w pb σ st us sa ra sc rc) :
    Calls Try.prog 47 #[.pointer (some ⟨pb, 0, none⟩)] w (RefOrder w σ) := by
  obtain ⟨i0, hi, hz0, hz1, hz2⟩ := info_parts u32sInfo
  obtain ⟨hc0, hc1, hc2⟩ := h.cells
  have hcap := h.ok.cap2
  have hst := h.stlen.2
  have hfl := h.ok.len
  have HFR := Lib.hid h.free
  have hr2 := h.us1
  have HST := Lib.hid h.stack
  have HX1 := Lib.hid hc1
  have HX2 := Lib.hid hc2
  have HLIE := Lib.hid h
  have hpb : pb < w.heap.size := h.dom pb (.inl rfl)
  have hci : (σ.cap : Int) ≤ 65536 := by omega
  have hsi : (st.length : Int) ≤ 65536 := by omega
  clear h
  go_enter Try.func47, Try.ntmps47
  go_wp2_with fail
  refine (s_free HLIE.out).mono ?_
  rintro e w1 ⟨rfl, q, rfl⟩
  generalize hF : σ.free.length = N at hfl ⊢
  have HF := Lib.hid hF
  have hb0 : Below w.heap.size w (w.drewN q) := below_drewN (Below.refl _ _) q
  have hs1 : (w.drewN q).heap.size = w.heap.size := rfl
  generalize w.drewN q = w1 at hb0 hs1 ⊢
  clear hc0 hc1 hc2 hF
  go_wp2_with (refine wpList_make_own _ rfl (.const (.int .i64 0)) (.tmp 7) 33 rfl w.heap.size 41 i0 (.int .u32 0) 1 Try.underlying33 hi hz0 hz1 .i64 .i64 (N : Int) N rfl rfl rfl (by rw [hz2]; omega) (by unfold maxLen; omega) (by omega) ?_; intro w2 ho2 hg2; have hb2 : Below w.heap.size w w2 := hb0.grown hg2 (by omega) (fun k hk => by cases hk); have hc1 := (hb2.cell (p := ⟨pb, 1, none⟩) hpb).trans HX1.out)
  clear hc1 hg2
  rw [hs1] at ho2
  go_loopw [3, 4] (fun x i wr => ∃ j : Nat, j ≤ st.length ∧ i = .int .i64 ((j : Int) - 1) ∧ OutB w.heap.size w (st.drop j).reverse x wr) (fun _ i _ => (intOf i + 1).toNat)
  case atStart => exact ⟨st.length, Nat.le_refl _, rfl, by rw [List.drop_length]; exact ho2, hb2⟩
  case round =>
    clear ho2 hb2
    obtain ⟨j, hj, rfl, ho, hb⟩ := hrel
    have hc1 := (hb.cell (p := ⟨pb, 1, none⟩) hpb).trans HX1.out
    have hc2 := (hb.cell (p := ⟨pb, 2, none⟩) hpb).trans HX2.out
    have hsz : w.heap.size ≤ wr.heap.size := hb.size
    by_cases h0 : 0 < j
    · obtain ⟨k, rfl⟩ : ∃ k, j = k + 1 := ⟨j - 1, by omega⟩
      obtain ⟨g, rfl, hg, hc⟩ := row_cell (j := k) (row_below HST.out hb) (by omega)
      have hc3 := hc.trans (u32s_get (by omega))
      have hdr := drop_rev (l := st) (j := k) (by omega)
      have HD := Lib.hid hdr
      have hlen : (st.drop (k + 1)).reverse.length ≤ 65536 := by simp; omega
      generalize st.getD k 0 = X at hc3 HD
      generalize (st.drop (k + 1)).reverse = R at ho hlen HD
      have hki : (((k + 1 : Nat) : Int) - 1) = (k : Int) := by omega
      rw [hki]
      have hk0 : (0 : Int) ≤ (k : Int) := by omega
      have hkl : (k : Int) < (st.length : Int) := by omega
      have hal := (Below.refl wr.heap.size wr).alloc (Nat.le_refl _) (Obj.cells #[Value.int .u32 (X : Int)] 41)
      have ho3 := row_below ho hal
      have hb3 : Below w.heap.size w (wr.alloc (Obj.cells #[Value.int .u32 (X : Int)] 41)) := hb.trans (hal.mono hsz)
      clear hdr hc ho hki h0 hal hb hc2
      go_wp2_with (at_builtin; refine wpList_append_own _ rfl (.tmp 19) (.tmp 27) 33 rfl w.heap.size 41 i0 (.int .u32 0) 1 4 Try.underlying33 hi hz0 hz1 hz2 rfl (by decide) _ R.length (u32s R) rfl ho3 ⟨wr.heap.size, 0, none⟩ 1 1 [.int .u32 (X : Int)] rfl rfl (cell_new1 _ _ _) (one_cell1 _ _) (by unfold maxLen; omega) (by omega) (by simp; omega) ?_; intro v2 w4 ho4 hg4 _)
      have hb4 : Below w.heap.size w w4 := hb3.grown hg4 (by simp; omega) (row_from ho3)
      refine ⟨⟨k, by omega, rfl, ?_, hb4⟩, by simp [intOf]⟩
      rw [HD.out, u32s_snoc, List.length_append]
      exact ho4
    · obtain rfl : j = 0 := by omega
      rw [List.drop_zero] at ho
      have hm1 : ((0 : Nat) : Int) - 1 = -1 := by omega
      rw [hm1]
      generalize hR : st.reverse = R at ho
      have HR := Lib.hid hR
      have hRl : R.length ≤ 65536 := by rw [← hR]; simp; omega
      have HRL := Lib.hid hRl
      have hui : (us : Int) ≤ (σ.cap : Int) := by omega
      clear h0 hm1 hR hRl hc1
      go_wp2
      go_loopw [3, 5] (fun x i wr => ∃ m : Nat, m ≤ σ.cap - us ∧ i = .int .i64 ((us + 1 + m : Nat) : Int) ∧ OutB w.heap.size w (R ++ List.range' (us + 1) m) x wr) (fun _ i _ => σ.cap + 1 - (intOf i).toNat)
      case atStart => exact ⟨0, Nat.zero_le _, rfl, by simpa using ho, hb⟩
      case round =>
        clear ho hb hc2 hsz
        obtain ⟨m, hm, rfl, ho, hb⟩ := hrel
        have hsz : w.heap.size ≤ wr.heap.size := hb.size
        obtain ⟨X, hX⟩ : ∃ X, X = us + 1 + m := ⟨_, rfl⟩
        rw [← hX]
        have hXc : X ≤ σ.cap + 1 := by omega
        go_wp2_with fail
        refine (s_capacity (HLIE.out.below hb)).mono ?_
        rintro e w1' ⟨rfl, q', rfl⟩
        have ho' := row_below ho (below_drewN (Below.refl _ _) q')
        have hb' : Below w.heap.size w (wr.drewN q') := below_drewN hb q'
        generalize wr.drewN q' = wt at ho' hb' ⊢
        have hsz' : w.heap.size ≤ wt.heap.size := hb'.size
        by_cases hlt : X ≤ σ.cap
        · have hD : R ++ List.range' (us + 1) (m + 1) = (R ++ List.range' (us + 1) m) ++ [X] := by rw [List.range'_concat, hX]; simp
          have HD := Lib.hid hD
          have hlen : (R ++ List.range' (us + 1) m).length ≤ 131072 := by have := HRL.out; simp; omega
          generalize R ++ List.range' (us + 1) m = Q at ho' hlen HD
          have hki : (X : Int) ≤ (σ.cap : Int) := by omega
          have HX := Lib.hid hX
          have hXw : IntKind.u32.wrap (X : Int) = (X : Int) := by rw [IntKind.wrap_u32']; omega
          have hal := (Below.refl wt.heap.size wt).alloc (Nat.le_refl _) (Obj.cells #[Value.int .u32 (X : Int)] 41)
          have ho3 := row_below ho' hal
          have hb3 : Below w.heap.size w (wt.alloc (Obj.cells #[Value.int .u32 (X : Int)] 41)) := hb'.trans (hal.mono hsz')
          clear hD ho ho' hal hb hb' hX hXc hsz
          go_wp2_with (at_builtin; refine wpList_append_own _ rfl (.tmp 40) (.tmp 43) 33 rfl w.heap.size 41 i0 (.int .u32 0) 1 4 Try.underlying33 hi hz0 hz1 hz2 rfl (by decide) _ Q.length (u32s Q) rfl ho3 ⟨wt.heap.size, 0, none⟩ 1 1 [.int .u32 (X : Int)] rfl rfl (cell_new1 _ _ _) (one_cell1 _ _) (by unfold maxLen; omega) (by omega) (by simp; omega) ?_; intro v2 w4 ho4 hg4 _)
          have hb4 : Below w.heap.size w w4 := hb3.grown hg4 (by simp; omega) (row_from ho3)
          have hXX := HX.out
          refine ⟨⟨m + 1, by omega, by (rw [hXX]; congr 1), ?_, hb4⟩, by simp [intOf]; omega⟩
          rw [HD.out, u32s_snoc, List.length_append]
          exact ho4
        · have hfree : R ++ List.range' (us + 1) m = σ.free := by
            obtain rfl : m = σ.cap - us := by omega
            rw [HFR.out, HR.out]
          rw [hfree] at ho'
          have hki : (σ.cap : Int) < (X : Int) := by omega
          obtain ⟨va, vc, rfl⟩ := row_val ho'
          clear hfree
          go_wp2
          go_ret
          exact ⟨va, vc, rfl, ho', hb'⟩
end
end Go.Proofs.Ytnmookemeibioaa
