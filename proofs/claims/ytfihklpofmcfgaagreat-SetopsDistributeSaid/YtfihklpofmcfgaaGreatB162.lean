/- Of the proofs of SetopsAlgebra, SetopsDistribute: SlotsOk5, ArOk3, PlayPure. -/
import Derived.Test.YtfihklpofmcfgaaGreatB161
import Derived.Deep.QuietTactic
import Derived.BigGuardPart
import Derived.Maps.AppendAt
import Derived.Deep.MidRow
import Derived.Deep.CutRange
import Derived.Deep.LoopGhost
import Derived.Deep.DeepCutAuto
import Derived.Deep.RegionHeld3
set_option linter.unusedVariables false
namespace Go.Proofs.YtfihklpofmcfgaaGreat
open Go.RowKit
/-- the cells of the row of structs -/
def sts (σ : St) : List Value := (List.range (σ.cap * 2)).map fun k => if k % 2 = 0 then .bool (σ.on (k / 2 + 1)) else .int .u32 (σ.gen (k / 2 + 1))
theorem sts_at0 (σ : St) (j : Nat) (h : j < σ.cap) : (sts σ)[j * 2]? = some (.bool (σ.on (j + 1))) := by
  have h1 : j * 2 < σ.cap * 2 := by omega
  simp [sts, h1]
theorem sts_at1 (σ : St) (j : Nat) (h : j < σ.cap) : (sts σ)[j * 2 + 1]? = some (.int .u32 (σ.gen (j + 1))) := by
  have h1 : j * 2 + 1 < σ.cap * 2 := by omega
  have h2 : (j * 2 + 1) % 2 = 1 := by omega
  have h3 : (j * 2 + 1) / 2 = j := by omega
  simp [sts, h1, h2, h3]
structure Lie (w : World) (pb : Nat) (σ : St) (st : List Nat) (us : Nat) (sa ra : Option Addr) (sc rc : Nat) : Prop where
  ok : σ.Ok
  free : σ.free = st.reverse ++ List.range' (us + 1) (σ.cap - us)
  us1 : us ≤ σ.cap
  box : w.heap[pb]? = some (.cells #[.slice sa σ.cap sc, .slice ra st.length rc, .int .i64 (us : Int)] 123 (0, 0))
  states : w.ownsRow 0 120 2 (.slice sa σ.cap sc) σ.cap (sts σ)
  stack : w.ownsRow 0 26 1 (.slice ra st.length rc) st.length (u32s st)
  ne1 : (Value.slice sa σ.cap sc).ownBlock ≠ some pb
  ne2 : (Value.slice ra st.length rc).ownBlock ≠ some pb
/-- the blocks that it occupies -/
def Foot (pb : Nat) (sa ra : Option Addr) (k : Nat) : Prop := k = pb ∨ (∃ x, sa = some x ∧ x.block = k) ∨ ∃ x, ra = some x ∧ x.block = k
def IsS (w : World) (p : Value) (σ : St) (F : Nat → Prop) : Prop :=
  ∃ (pb : Nat) (st : List Nat) (us : Nat) (sa ra : Option Addr) (sc rc : Nat), p = .pointer (some ⟨pb, 0, none⟩) ∧ Lie w pb σ st us sa ra sc rc ∧ ∀ k, F k ↔ Foot pb sa ra k
theorem row_head2 {w : World} {B n c : Nat} {e : TypeId} {a : Option Addr} {xs : List Value} (h : w.ownsRow B e 2 (.slice a n c) n xs) (h0 : 0 < n) : ∃ g, a = some ⟨g, 0, none⟩ := by
  rcases h.2 with ⟨_, hn⟩ | ⟨g, cap, cur, hv, _⟩
  · omega
  · simp only [Value.slice.injEq] at hv
    exact ⟨g, hv.1⟩
section
variable {w w' : World} {pb : Nat} {σ : St} {st : List Nat} {us : Nat} {sa ra : Option Addr} {sc rc : Nat}
theorem Lie.dom (h : Lie w pb σ st us sa ra sc rc) : ∀ k, Foot pb sa ra k → k < w.heap.size := by
  intro k hk
  rcases hk with rfl | ⟨x, rfl, rfl⟩ | ⟨x, rfl, rfl⟩
  · exact (Array.getElem?_eq_some_iff.1 h.box).1
  · exact (row_lt h.states _ rfl).2
  · exact (row_lt h.stack _ rfl).2
theorem Lie.keep (h : Lie w pb σ st us sa ra sc rc) (hk : ∀ k, Foot pb sa ra k → w'.heap[k]? = w.heap[k]?) : Lie w' pb σ st us sa ra sc rc := by
  refine ⟨h.ok, h.free, h.us1, (hk pb (.inl rfl)).trans h.box, row_keep h.states fun k e => hk k ?_, row_keep h.stack fun k e => hk k ?_, h.ne1, h.ne2⟩
  · cases sa with
    | none => simp [Value.ownBlock] at e
    | some x => simp [Value.ownBlock] at e; exact .inr (.inl ⟨x, rfl, e⟩)
  · cases ra with
    | none => simp [Value.ownBlock] at e
    | some x => simp [Value.ownBlock] at e; exact .inr (.inr ⟨x, rfl, e⟩)
theorem Lie.cells (h : Lie w pb σ st us sa ra sc rc) :
    w.cell? ⟨pb, 0, none⟩ = some (.slice sa σ.cap sc) ∧ w.cell? ⟨pb, 1, none⟩ = some (.slice ra st.length rc) ∧ w.cell? ⟨pb, 2, none⟩ = some (.int .i64 (us : Int)) := by
  refine ⟨?_, ?_, ?_⟩ <;> (rw [cell_of_row _ _ _ _ _ _ h.box]; rfl)
set_option maxHeartbeats 1000000 in
set_option maxRecDepth 100000 in
theorem s_isSlot (h : Lie w pb σ st us sa ra sc rc) (i : Nat) (hi : i < 4294967296) :
    Calls Tryz.prog 74 #[.pointer (some ⟨pb, 0, none⟩), .int .u32 (i : Int)] w (Quiet w (.bool (decide (1 ≤ i ∧ i ≤ σ.cap)))) := by
  obtain ⟨hc0, hc1, hc2⟩ := h.cells
  have hcap := h.ok.cap2
  have hcw : IntKind.u32.wrap (σ.cap : Int) = (σ.cap : Int) := by rw [IntKind.wrap_u32']; omega
  clear h
  rcases (show i = 0 ∨ 1 ≤ i by omega) with rfl | h0
  · rw [show decide (1 ≤ 0 ∧ 0 ≤ σ.cap) = false by simp]
    go_enter Tryz.func74, Tryz.ntmps74
    go_wp2
    go_ret
    exact ⟨rfl, 0, rfl⟩
  · rw [show decide (1 ≤ i ∧ i ≤ σ.cap) = decide (i ≤ σ.cap) by simp only [h0, true_and]]
    have hi1 : (1 : Int) ≤ (i : Int) := by omega
    go_enter Tryz.func74, Tryz.ntmps74
    go_wp2
    go_ret
    exact ⟨rfl, 0, rfl⟩
set_option maxHeartbeats 1000000 in
set_option maxRecDepth 100000 in
theorem s_allocated (h : Lie w pb σ st us sa ra sc rc) (i : Nat) (hi : i < 4294967296) :
    Calls Tryz.prog 42 #[.pointer (some ⟨pb, 0, none⟩), .int .u32 (i : Int)] w (Quiet w (.bool (σ.on i))) := by
  obtain ⟨hc0, hc1, hc2⟩ := h.cells
  obtain ⟨b, hb⟩ : ∃ b, σ.on i = b := ⟨_, rfl⟩
  rw [hb]
  have hcap := h.ok.cap2
  go_enter Tryz.func42, Tryz.ntmps42
  go_wp2_with fail
  refine (s_isSlot h i hi).mono ?_
  rintro e w1 ⟨rfl, q, rfl⟩
  have hd0 : (w.drewN q).cell? ⟨pb, 0, none⟩ = some (.slice sa σ.cap sc) := hc0
  by_cases hic : 1 ≤ i ∧ i ≤ σ.cap
  · obtain ⟨j, rfl⟩ : ∃ j, i = j + 1 := ⟨i - 1, by omega⟩
    rw [show decide (1 ≤ j + 1 ∧ j + 1 ≤ σ.cap) = true by simp; omega]
    obtain ⟨g, rfl⟩ := row_head2 h.states (by omega)
    have hcs : (w.drewN q).cell? ⟨g, j * 2, none⟩ = some (.bool (σ.on (j + 1))) := (h.states.cellAt (j * 2) (by omega)).trans (sts_at0 σ j (by omega))
    rw [hb] at hcs
    have hjc : (j : Int) < (σ.cap : Int) := by omega
    have hj0 : (0 : Int) ≤ (j : Int) := by omega
    generalize hW : w.drewN q = w1 at hd0 hcs ⊢
    have HW := Lib.hid hW
    clear h hic hW hc0 hc1 hc2 hb
    go_wp2
    go_ret
    exact ⟨rfl, q, HW.out.symm⟩
  · obtain rfl : b = false := by
      cases b with
      | true => exact absurd (h.ok.on i hb) hic
      | false => rfl
    rw [show decide (1 ≤ i ∧ i ≤ σ.cap) = false by simpa using hic]
    clear h hic hb
    go_wp2
    go_ret
    exact ⟨rfl, q, rfl⟩
set_option maxHeartbeats 1000000 in
set_option maxRecDepth 100000 in
theorem s_generation (h : Lie w pb σ st us sa ra sc rc) (i : Nat) (hi : i < 4294967296) :
    Calls Tryz.prog 43 #[.pointer (some ⟨pb, 0, none⟩), .int .u32 (i : Int)] w (Quiet w (.int .u32 (σ.gen i))) := by
  obtain ⟨hc0, hc1, hc2⟩ := h.cells
  obtain ⟨b, hb⟩ : ∃ b, σ.gen i = b := ⟨_, rfl⟩
  rw [hb]
  have hcap := h.ok.cap2
  go_enter Tryz.func43, Tryz.ntmps43
  go_wp2_with fail
  refine (s_isSlot h i hi).mono ?_
  rintro e w1 ⟨rfl, q, rfl⟩
  have hd0 : (w.drewN q).cell? ⟨pb, 0, none⟩ = some (.slice sa σ.cap sc) := hc0
  by_cases hic : 1 ≤ i ∧ i ≤ σ.cap
  · obtain ⟨j, rfl⟩ : ∃ j, i = j + 1 := ⟨i - 1, by omega⟩
    rw [show decide (1 ≤ j + 1 ∧ j + 1 ≤ σ.cap) = true by simp; omega]
    obtain ⟨g, rfl⟩ := row_head2 h.states (by omega)
    have hcs : (w.drewN q).cell? ⟨g, j * 2 + 1, none⟩ = some (.int .u32 (σ.gen (j + 1))) := (h.states.cellAt (j * 2 + 1) (by omega)).trans (sts_at1 σ j (by omega))
    rw [hb] at hcs
    have hjc : (j : Int) < (σ.cap : Int) := by omega
    have hj0 : (0 : Int) ≤ (j : Int) := by omega
    generalize hW : w.drewN q = w1 at hd0 hcs ⊢
    have HW := Lib.hid hW
    clear h hic hW hc0 hc1 hc2 hb
    go_wp2
    go_ret
    exact ⟨rfl, q, HW.out.symm⟩
  · obtain rfl : b = 0 := by rw [← hb]; exact h.ok.out i (by omega)
    rw [show decide (1 ≤ i ∧ i ≤ σ.cap) = false by simpa using hic]
    clear h hic hb
    go_wp2
    go_ret
    exact ⟨rfl, q, rfl⟩
set_option maxRecDepth 100000 in
theorem s_capacity (h : Lie w pb σ st us sa ra sc rc) :
    Calls Tryz.prog 76 #[.pointer (some ⟨pb, 0, none⟩)] w (Quiet w (.int .i64 (σ.cap : Int))) := by
  obtain ⟨hc0, hc1, hc2⟩ := h.cells
  clear h
  go_enter Tryz.func76, Tryz.ntmps76
  go_wp2
  go_ret
  exact ⟨rfl, 0, rfl⟩
theorem Lie.stlen (h : Lie w pb σ st us sa ra sc rc) : σ.free.length = st.length + (σ.cap - us) ∧ st.length ≤ 65536 := by
  have h1 := h.ok.len
  have h2 := h.ok.cap2
  have h3 := congrArg List.length h.free
  simp at h3
  omega
set_option maxHeartbeats 1000000 in
set_option maxRecDepth 100000 in
theorem s_free (h : Lie w pb σ st us sa ra sc rc) :
    Calls Tryz.prog 75 #[.pointer (some ⟨pb, 0, none⟩)] w (Quiet w (.int .i64 (σ.free.length : Int))) := by
  obtain ⟨hc0, hc1, hc2⟩ := h.cells
  have hcap := h.ok.cap2
  obtain ⟨hl1, hl2⟩ := h.stlen
  have hf := h.us1
  have hci : (σ.cap : Int) ≤ 65536 := by omega
  have hfi : (us : Int) ≤ (σ.cap : Int) := by omega
  have hsi : (st.length : Int) ≤ 65536 := by omega
  have hv : Hid ((st.length : Int) + (σ.cap : Int) - (us : Int) = (σ.free.length : Int)) := by show _ = _; omega
  have HC := fun q => s_capacity (w := w.drewN q) (h.keep fun k _ => rfl)
  clear h hl1 hl2 hcap hf
  go_enter Tryz.func75, Tryz.ntmps75
  go_wp2
  go_quiet ((go_at_call 76; exact Calls.quiet_of (HC _)))
  go_wp2
  go_ret
  exact ⟨ret_int hv.out, _, rfl⟩
end
section
variable {w w' : World} {pb : Nat} {σ : St} {st : List Nat} {us : Nat} {sa ra : Option Addr} {sc rc : Nat}
theorem Lie.below (h : Lie w pb σ st us sa ra sc rc) (hb : Below w.heap.size w w') : Lie w' pb σ st us sa ra sc rc := h.keep (below_foot hb h.dom)
def OutB (B : Nat) (w1 : World) (l : List Nat) (x : Value) (wr : World) : Prop := wr.ownsRow B 26 1 x l.length (u32s l) ∧ Below B w1 wr
set_option maxHeartbeats 2000000 in
set_option maxRecDepth 100000 in
theorem s_order (h : Lie w pb σ st us sa ra sc rc) :
    Calls Tryz.prog 44 #[.pointer (some ⟨pb, 0, none⟩)] w (RefOrder w σ) := by
  obtain ⟨i0, hi, hz0, hz1, hz2⟩ := info_parts u32sInfo
  obtain ⟨hc0, hc1, hc2⟩ := h.cells
  have hcap := h.ok.cap2
  have hst := h.stlen.2
  have hfl := h.ok.len
  have HFR := Lib.hid h.free
  have hr2 := h.us1
  have HST := Lib.hid h.stack
  have HX1 := Lib.hid hc1
  have HX2 := Lib.hid hc2
  have HLIE := Lib.hid h
  have hpb : pb < w.heap.size := h.dom pb (.inl rfl)
  have hci : (σ.cap : Int) ≤ 65536 := by omega
  have hsi : (st.length : Int) ≤ 65536 := by omega
  clear h
  go_enter Tryz.func44, Tryz.ntmps44
  go_wp2_with fail
  refine (s_free HLIE.out).mono ?_
  rintro e w1 ⟨rfl, q, rfl⟩
  generalize hF : σ.free.length = N at hfl ⊢
  have HF := Lib.hid hF
  have hb0 : Below w.heap.size w (w.drewN q) := below_drewN (Below.refl _ _) q
  have hs1 : (w.drewN q).heap.size = w.heap.size := rfl
  generalize w.drewN q = w1 at hb0 hs1 ⊢
  clear hc0 hc1 hc2 hF
  go_wp2_with (refine wpList_make_own _ rfl (.const (.int .i64 0)) (.tmp 7) 31 rfl w.heap.size 26 i0 (.int .u32 0) 1 Tryz.underlying31 hi hz0 hz1 .i64 .i64 (N : Int) N rfl rfl rfl (by rw [hz2]; omega) (by unfold maxLen; omega) (by omega) ?_; intro w2 ho2 hg2; have hb2 : Below w.heap.size w w2 := hb0.grown hg2 (by omega) (fun k hk => by cases hk); have hc1 := (hb2.cell (p := ⟨pb, 1, none⟩) hpb).trans HX1.out)
  clear hc1 hg2
  rw [hs1] at ho2
  go_loopw [3, 4] (fun x i wr => ∃ j : Nat, j ≤ st.length ∧ i = .int .i64 ((j : Int) - 1) ∧ OutB w.heap.size w (st.drop j).reverse x wr) (fun _ i _ => (intOf i + 1).toNat)
  case atStart => exact ⟨st.length, Nat.le_refl _, rfl, by rw [List.drop_length]; exact ho2, hb2⟩
  case round =>
    clear ho2 hb2
    obtain ⟨j, hj, rfl, ho, hb⟩ := hrel
    have hc1 := (hb.cell (p := ⟨pb, 1, none⟩) hpb).trans HX1.out
    have hc2 := (hb.cell (p := ⟨pb, 2, none⟩) hpb).trans HX2.out
    have hsz : w.heap.size ≤ wr.heap.size := hb.size
    by_cases h0 : 0 < j
    · obtain ⟨k, rfl⟩ : ∃ k, j = k + 1 := ⟨j - 1, by omega⟩
      obtain ⟨g, rfl, hg, hc⟩ := row_cell (j := k) (row_below HST.out hb) (by omega)
      have hc3 := hc.trans (u32s_get (by omega))
      have hdr := drop_rev (l := st) (j := k) (by omega)
      have HD := Lib.hid hdr
      have hlen : (st.drop (k + 1)).reverse.length ≤ 65536 := by simp; omega
      generalize st.getD k 0 = X at hc3 HD
      generalize (st.drop (k + 1)).reverse = R at ho hlen HD
      have hki : (((k + 1 : Nat) : Int) - 1) = (k : Int) := by omega
      rw [hki]
      have hk0 : (0 : Int) ≤ (k : Int) := by omega
      have hkl : (k : Int) < (st.length : Int) := by omega
      have hal := (Below.refl wr.heap.size wr).alloc (Nat.le_refl _) (Obj.cells #[Value.int .u32 (X : Int)] 26)
      have ho3 := row_below ho hal
      have hb3 : Below w.heap.size w (wr.alloc (Obj.cells #[Value.int .u32 (X : Int)] 26)) := hb.trans (hal.mono hsz)
      clear hdr hc ho hki h0 hal hb hc2
      go_wp2_with (at_builtin; refine wpList_append_own _ rfl (.tmp 19) (.tmp 27) 31 rfl w.heap.size 26 i0 (.int .u32 0) 1 4 Tryz.underlying31 hi hz0 hz1 hz2 rfl (by decide) _ R.length (u32s R) rfl ho3 ⟨wr.heap.size, 0, none⟩ 1 1 [.int .u32 (X : Int)] rfl rfl (cell_new1 _ _ _) (one_cell1 _ _) (by unfold maxLen; omega) (by omega) (by simp; omega) ?_; intro v2 w4 ho4 hg4 _)
      have hb4 : Below w.heap.size w w4 := hb3.grown hg4 (by simp; omega) (row_from ho3)
      refine ⟨⟨k, by omega, rfl, ?_, hb4⟩, by simp [intOf]⟩
      rw [HD.out, u32s_snoc, List.length_append]
      exact ho4
    · obtain rfl : j = 0 := by omega
      rw [List.drop_zero] at ho
      have hm1 : ((0 : Nat) : Int) - 1 = -1 := by omega
      rw [hm1]
      generalize hR : st.reverse = R at ho
      have HR := Lib.hid hR
      have hRl : R.length ≤ 65536 := by rw [← hR]; simp; omega
      have HRL := Lib.hid hRl
      have hui : (us : Int) ≤ (σ.cap : Int) := by omega
      clear h0 hm1 hR hRl hc1
      go_wp2
      go_loopw [3, 5] (fun x i wr => ∃ m : Nat, m ≤ σ.cap - us ∧ i = .int .i64 ((us + 1 + m : Nat) : Int) ∧ OutB w.heap.size w (R ++ List.range' (us + 1) m) x wr) (fun _ i _ => σ.cap + 1 - (intOf i).toNat)
      case atStart => exact ⟨0, Nat.zero_le _, rfl, by simpa using ho, hb⟩
      case round =>
        clear ho hb hc2 hsz
        obtain ⟨m, hm, rfl, ho, hb⟩ := hrel
        have hsz : w.heap.size ≤ wr.heap.size := hb.size
        obtain ⟨X, hX⟩ : ∃ X, X = us + 1 + m := ⟨_, rfl⟩
        rw [← hX]
        have hXc : X ≤ σ.cap + 1 := by omega
        go_wp2_with fail
        refine (s_capacity (HLIE.out.below hb)).mono ?_
        rintro e w1' ⟨rfl, q', rfl⟩
        have ho' := row_below ho (below_drewN (Below.refl _ _) q')
        have hb' : Below w.heap.size w (wr.drewN q') := below_drewN hb q'
        generalize wr.drewN q' = wt at ho' hb' ⊢
        have hsz' : w.heap.size ≤ wt.heap.size := hb'.size
        by_cases hlt : X ≤ σ.cap
        · have hD : R ++ List.range' (us + 1) (m + 1) = (R ++ List.range' (us + 1) m) ++ [X] := by rw [List.range'_concat, hX]; simp
          have HD := Lib.hid hD
          have hlen : (R ++ List.range' (us + 1) m).length ≤ 131072 := by have := HRL.out; simp; omega
          generalize R ++ List.range' (us + 1) m = Q at ho' hlen HD
          have hki : (X : Int) ≤ (σ.cap : Int) := by omega
          have HX := Lib.hid hX
          have hXw : IntKind.u32.wrap (X : Int) = (X : Int) := by rw [IntKind.wrap_u32']; omega
          have hal := (Below.refl wt.heap.size wt).alloc (Nat.le_refl _) (Obj.cells #[Value.int .u32 (X : Int)] 26)
          have ho3 := row_below ho' hal
          have hb3 : Below w.heap.size w (wt.alloc (Obj.cells #[Value.int .u32 (X : Int)] 26)) := hb'.trans (hal.mono hsz')
          clear hD ho ho' hal hb hb' hX hXc hsz
          go_wp2_with (at_builtin; refine wpList_append_own _ rfl (.tmp 40) (.tmp 43) 31 rfl w.heap.size 26 i0 (.int .u32 0) 1 4 Tryz.underlying31 hi hz0 hz1 hz2 rfl (by decide) _ Q.length (u32s Q) rfl ho3 ⟨wt.heap.size, 0, none⟩ 1 1 [.int .u32 (X : Int)] rfl rfl (cell_new1 _ _ _) (one_cell1 _ _) (by unfold maxLen; omega) (by omega) (by simp; omega) ?_; intro v2 w4 ho4 hg4 _)
          have hb4 : Below w.heap.size w w4 := hb3.grown hg4 (by simp; omega) (row_from ho3)
          have hXX := HX.out
          refine ⟨⟨m + 1, by omega, by (rw [hXX]; congr 1), ?_, hb4⟩, by simp [intOf]; omega⟩
          rw [HD.out, u32s_snoc, List.length_append]
          exact ho4
        · have hfree : R ++ List.range' (us + 1) m = σ.free := by
            obtain rfl : m = σ.cap - us := by omega
            rw [HFR.out, HR.out]
          rw [hfree] at ho'
          have hki : (σ.cap : Int) < (X : Int) := by omega
          obtain ⟨va, vc, rfl⟩ := row_val ho'
          clear hfree
          go_wp2
          go_ret
          exact ⟨va, vc, rfl, ho', hb'⟩
end
section
variable {w w' : World} {pb : Nat} {σ : St} {st : List Nat} {us : Nat} {sa ra : Option Addr} {sc rc : Nat} {F F1 F2 : Nat → Prop}
theorem alters_set {a : Addr} {v : Value} (hF : F a.block) : Alters F F w (w.setCell a v) :=
  ⟨rfl, rfl, rfl, by rw [size_set]; exact Nat.le_refl _, fun k _ hf => heap_setCell_other _ _ _ _ fun e => hf (e ▸ hF), fun _ h => .inl h⟩
theorem alters_alloc {ob : Obj} : Alters F F w (w.alloc ob) := .of_below ((Below.refl _ _).alloc (Nat.le_refl _) ob)
theorem alters_drewN {q : Nat} : Alters F F w (w.drewN q) := .of_below (below_drewN (Below.refl _ _) q)
theorem alters_grown {row : Option Nat} (hg : w.grownBy w' row) (hr : ∀ k, row = some k → F k) : Alters F F w w' :=
  ⟨hg.os, hg.tape, hg.output, hg.size, fun k hk hf => hg.block k hk fun e => hf (hr k e.symm), fun _ h => .inl h⟩
theorem Alters.refoot (h : Alters F F1 w w') (hf : ∀ k, F2 k → F k ∨ w.heap.size ≤ k) : Alters F F2 w w' := ⟨h.os, h.tape, h.output, h.size, h.block, hf⟩
/-- the box and its two rows, whatever they hold -/
structure Raw (w : World) (pb n : Nat) (xs : List Value) (st : List Nat) (u : Value) (sa ra : Option Addr) (sc rc : Nat) : Prop where
  box : w.heap[pb]? = some (.cells #[.slice sa n sc, .slice ra st.length rc, u] 123 (0, 0))
  states : w.ownsRow 0 120 2 (.slice sa n sc) n xs
  stack : w.ownsRow 0 26 1 (.slice ra st.length rc) st.length (u32s st)
  ne1 : (Value.slice sa n sc).ownBlock ≠ some pb
  ne2 : (Value.slice ra st.length rc).ownBlock ≠ some pb
theorem Lie.raw (h : Lie w pb σ st us sa ra sc rc) : Raw w pb σ.cap (sts σ) st (.int .i64 (us : Int)) sa ra sc rc :=
  ⟨h.box, h.states, h.stack, h.ne1, h.ne2⟩
theorem Raw.lie (h : Raw w pb σ.cap (sts σ) st (.int .i64 (us : Int)) sa ra sc rc) (ok : σ.Ok) (free : σ.free = st.reverse ++ List.range' (us + 1) (σ.cap - us)) (us1 : us ≤ σ.cap) :
    Lie w pb σ st us sa ra sc rc := ⟨ok, free, us1, h.box, h.states, h.stack, h.ne1, h.ne2⟩
section
variable {n : Nat} {xs : List Value} {u : Value} {ra' : Option Addr} {rc' : Nat}
theorem Raw.cells (h : Raw w pb n xs st u sa ra sc rc) :
    w.cell? ⟨pb, 0, none⟩ = some (.slice sa n sc) ∧ w.cell? ⟨pb, 1, none⟩ = some (.slice ra st.length rc) ∧ w.cell? ⟨pb, 2, none⟩ = some u := by
  refine ⟨?_, ?_, ?_⟩ <;> (rw [cell_of_row _ _ _ _ _ _ h.box]; rfl)
theorem Raw.lt (h : Raw w pb n xs st u sa ra sc rc) : pb < w.heap.size := (Array.getElem?_eq_some_iff.1 h.box).1
theorem Raw.below (h : Raw w pb n xs st u sa ra sc rc) (hb : Below w.heap.size w w') : Raw w' pb n xs st u sa ra sc rc :=
  ⟨(hb.block pb h.lt).trans h.box, row_below h.states hb, row_below h.stack hb, h.ne1, h.ne2⟩
theorem Raw.setSt {g : Nat} (h : Raw w pb n xs st u (some ⟨g, 0, none⟩) ra sc rc) (j : Nat) (x : Value) : Raw (w.setCell ⟨g, j, none⟩ x) pb n (xs.set j x) st u (some ⟨g, 0, none⟩) ra sc rc := by
  refine ⟨?_, (h.states.stored j x).1, row_cellset h.stack fun e => row_ne (by decide) h.stack h.states g e rfl, h.ne1, h.ne2⟩
  rw [heap_setCell_other _ _ _ _ (fun e => h.ne1 (by rw [e]; rfl))]
  exact h.box
theorem Raw.setU (h : Raw w pb n xs st u sa ra sc rc) (u' : Value) : Raw (w.setCell ⟨pb, 2, none⟩ u') pb n xs st u' sa ra sc rc :=
  ⟨by rw [heap_setCell_same _ _ _ _ _ _ h.box]; rfl, row_cellset h.states h.ne1, row_cellset h.stack h.ne2, h.ne1, h.ne2⟩
theorem Raw.pop {X : Nat} (h : Raw w pb n xs (st ++ [X]) u sa ra sc rc) : Raw (w.setCell ⟨pb, 1, none⟩ (.slice ra st.length rc)) pb n xs st u sa ra sc rc := by
  have hl : (st ++ [X]).length = st.length + 1 := by simp
  have hp := row_pre h.stack (m := st.length) (by omega) (by omega)
  have e1 : (u32s (st ++ [X])).take st.length = u32s st := by rw [u32s_snoc, List.take_left' (by simp [u32s])]
  rw [e1] at hp
  have hn1 : (Value.slice ra st.length rc).ownBlock ≠ some pb := fun e => h.ne2 (by cases ra <;> simp [Value.ownBlock] at e ⊢ <;> exact e)
  exact ⟨by rw [heap_setCell_same _ _ _ _ _ _ h.box]; rfl, row_cellset h.states h.ne1, row_cellset hp hn1, h.ne1, hn1⟩
theorem Raw.after (h : Raw w pb n xs st u sa ra sc rc) (hg : w.grownBy w' (Value.slice ra st.length rc).ownBlock) : w'.cell? ⟨pb, 1, none⟩ = some (.slice ra st.length rc) ∧ w'.frozen? ⟨pb, 1, none⟩ = false := by
  have hbx := (hg.block pb h.lt fun e => h.ne2 e.symm).trans h.box
  exact ⟨by rw [cell_of_row _ _ _ _ _ _ hbx]; rfl, frozen_of_row w' pb 1 _ _ hbx⟩
theorem Raw.push {X : Nat} (h : Raw w pb n xs st u sa ra sc rc) (hg : w.grownBy w' (Value.slice ra st.length rc).ownBlock) (hr : w'.ownsRow 0 26 1 (.slice ra' (st.length + 1) rc') (st.length + 1) (u32s (st ++ [X])))
    (hb : (Value.slice ra' (st.length + 1) rc').ownBlock = (Value.slice ra st.length rc).ownBlock ∨ (Value.slice ra' (st.length + 1) rc').ownBlock = some w.heap.size) :
    Raw (w'.setCell ⟨pb, 1, none⟩ (.slice ra' (st.length + 1) rc')) pb n xs (st ++ [X]) u sa ra' sc rc' := by
  have hl : (st ++ [X]).length = st.length + 1 := by simp
  have hlt := h.lt
  have hbx := (hg.block pb h.lt fun e => h.ne2 e.symm).trans h.box
  have hst : w'.ownsRow 0 120 2 (.slice sa n sc) n xs := row_keep h.states fun k hk => hg.block k (row_lt h.states k hk).2 fun e => row_ne (by decide) h.states h.stack k hk e.symm
  have hn1 : (Value.slice ra' (st.length + 1) rc').ownBlock ≠ some pb := fun e => by
    rcases hb with h1 | h1
    · exact h.ne2 (h1.symm.trans e)
    · rw [h1] at e; simp at e; omega
  refine ⟨?_, row_cellset hst h.ne1, by rw [hl]; exact row_cellset hr hn1, h.ne1, by rw [hl]; exact hn1⟩
  rw [heap_setCell_same _ _ _ _ _ _ hbx, hl]; rfl
end
set_option maxHeartbeats 1000000 in
set_option maxRecDepth 100000 in
theorem s_release_off (h : Lie w pb σ st us sa ra sc rc) (i : Nat) (hi : i < 4294967296) (ho : σ.on i = false) :
    Calls Tryz.prog 83 #[.pointer (some ⟨pb, 0, none⟩), .int .u32 (i : Int)] w (fun e w' => e = .returned (.int .i64 3) ∧ ∃ q, w' = w.drewN q) := by
  go_enter Tryz.func83, Tryz.ntmps83
  go_wp2_with fail
  refine (s_allocated h i hi).mono ?_
  rintro e w1 ⟨rfl, q, rfl⟩
  rw [ho]
  go_wp2
  go_ret
  exact ⟨rfl, q, rfl⟩
theorem sts_put (σ : St) (j : Nat) : sts (σ.put (j + 1)) = (sts σ).set (j * 2) (.bool false) := by
  apply List.ext_getElem
  · simp [sts, St.put]
  · intro k h2 h3
    rw [List.getElem_set]
    by_cases e : j * 2 = k
    · subst e
      simp [sts, St.put]
    · rw [if_neg e]
      by_cases hp : k % 2 = 0
      · have : ¬ k / 2 = j := by omega
        simp [sts, St.put, hp, this]
      · simp [sts, St.put, hp]
theorem sts_take (σ : St) (j : Nat) (t : List Nat) : sts (σ.take (j + 1) t) = ((sts σ).set (j * 2) (.bool true)).set (j * 2 + 1) (.int .u32 ((σ.gen (j + 1) + 1) % 4294967296)) := by
  apply List.ext_getElem
  · simp [sts, St.take]
  · intro k h2 h3
    rw [List.getElem_set, List.getElem_set]
    by_cases e : j * 2 + 1 = k
    · subst e
      have h4 : (j * 2 + 1) % 2 = 1 := by omega
      have h5 : (j * 2 + 1) / 2 = j := by omega
      simp [sts, St.take, h4, h5]
    · rw [if_neg e]
      by_cases e : j * 2 = k
      · subst e
        simp [sts, St.take]
      · rw [if_neg e]
        have : ¬ k / 2 = j := by omega
        simp [sts, St.take, this]
theorem foot_own {n c : Nat} {a : Option Addr} {k : Nat} (h : (Value.slice a n c).ownBlock = some k) : ∃ x, a = some x ∧ x.block = k := by
  cases a with
  | none => simp [Value.ownBlock] at h
  | some x => simp [Value.ownBlock] at h; exact ⟨x, rfl, h⟩
def SPut (w : World) (pb : Nat) (σ : St) (st : List Nat) (us : Nat) (sa ra : Option Addr) (sc i : Nat) (e : Ending) (w' : World) : Prop :=
  e = .returned (.int .i64 0) ∧ ∃ (ra' : Option Addr) (rc' : Nat), Lie w' pb (σ.put i) (st ++ [i]) us sa ra' sc rc' ∧ Alters (Foot pb sa ra) (Foot pb sa ra') w w'
set_option maxHeartbeats 2000000 in
set_option maxRecDepth 100000 in
theorem s_release_on (h : Lie w pb σ st us sa ra sc rc) (j : Nat) (hi : j + 1 < 4294967296) (ho : σ.on (j + 1) = true) :
    Calls Tryz.prog 83 #[.pointer (some ⟨pb, 0, none⟩), .int .u32 ((j + 1 : Nat) : Int)] w (SPut w pb σ st us sa ra sc (j + 1)) := by
  have hic := h.ok.on (j + 1) ho
  obtain ⟨i0, ji, jz0, jz1, jz2⟩ := info_parts u32sInfo
  have hcap := h.ok.cap2
  have hst := h.stlen.2
  have hsi : (st.length : Int) ≤ 65536 := by omega
  have hii : (j : Int) < (σ.cap : Int) := by omega
  have hj0 : (0 : Int) ≤ (j : Int) := by omega
  have HR := Lib.hid h.raw
  obtain ⟨go, rfl⟩ := row_head2 h.states (by omega)
  go_enter Tryz.func83, Tryz.ntmps83
  go_wp2_with fail
  refine (s_allocated h (j + 1) hi).mono ?_
  rintro e w1 ⟨rfl, q, rfl⟩
  rw [ho]
  have hR1 := HR.out.below (below_drewN (Below.refl _ _) q)
  have hA1 : Alters (Foot pb (some ⟨go, 0, none⟩) ra) (Foot pb (some ⟨go, 0, none⟩) ra) w (w.drewN q) := alters_drewN
  have HON := Lib.hid ho
  have HOK := Lib.hid h.ok
  have HLIE := Lib.hid h
  obtain ⟨hc0, hc1, hc2⟩ := hR1.cells
  have hfo := hR1.states.frozenAt (j * 2)
  have hco := (hR1.states.cellAt (j * 2) (by omega)).trans (sts_at0 σ j (by omega))
  generalize w.drewN q = w1 at hR1 hc0 hc1 hc2 hfo hco hA1 ⊢
  have HA := Lib.hid hA1
  clear hA1
  have hR2 := hR1.setSt (j * 2) (.bool false)
  obtain ⟨hd0, hd1, hd2⟩ := hR2.cells
  have hal := (Below.refl _ (w1.setCell ⟨go, j * 2, none⟩ (.bool false))).alloc (Nat.le_refl _) (Obj.cells #[Value.int .u32 ((j + 1 : Nat) : Int)] 26)
  have hR3 := hR2.below hal
  have HS := Lib.hid hR3.stack
  have hnew := cell_new1 (w1.setCell ⟨go, j * 2, none⟩ (.bool false)) (.int .u32 ((j + 1 : Nat) : Int)) 26
  rw [size_set] at hnew
  have HNEW := Lib.hid hnew
  clear h ho hnew
  go_wp2_with (at_builtin; refine wpList_append_own_at _ rfl (.tmp 21) (.tmp 23) 31 rfl 0 26 i0 (.int .u32 0) 1 4 Tryz.underlying31 ji jz0 jz1 jz2 rfl (by decide) _ st.length (u32s st) rfl HS.out ⟨w1.heap.size, 0, none⟩ 1 1 [.int .u32 ((j + 1 : Nat) : Int)] rfl rfl HNEW.out (one_cell1 _ _) (by unfold maxLen; omega) (by omega) (Nat.zero_le _) ?_; intro v2 w5 ho5 hg5 _ hb5; obtain ⟨va, vc, rfl⟩ := row_val ho5; obtain ⟨hf1, hf2⟩ := hR3.after hg5)
  go_ret
  refine ⟨rfl, va, vc, ?_, ?_⟩
  · have hp := hR3.push (X := j + 1) hg5 (by rw [u32s_snoc]; exact ho5) hb5
    rw [← sts_put] at hp
    refine Raw.lie (σ := σ.put (j + 1)) hp (St.put_ok HOK.out HON.out) ?_ HLIE.out.us1
    show (j + 1) :: σ.free = _
    rw [HLIE.out.free]; simp [St.put]
  · have h1 : Alters (Foot pb (some ⟨go, 0, none⟩) ra) (Foot pb (some ⟨go, 0, none⟩) ra) w w1 := HA.out
    have hb : Foot pb (some ⟨go, 0, none⟩) ra pb := .inl rfl
    have h2 := h1.trans ((alters_set (a := ⟨go, j * 2, none⟩) (v := .bool false) (.inr (.inl ⟨_, rfl, rfl⟩))).trans (alters_alloc.trans ((alters_grown hg5 fun k hk => .inr (.inr (foot_own hk))).trans (alters_set (a := ⟨pb, 1, none⟩) (v := .slice va (st.length + 1) vc) hb))))
    refine h2.refoot fun k hk => ?_
    rcases hk with rfl | hk | hk
    · exact .inl (.inl rfl)
    · exact .inl (.inr (.inl hk))
    · obtain ⟨x, rfl, rfl⟩ := hk
      rcases hb5 with h3 | h3
      · exact .inl (.inr (.inr (foot_own h3.symm)))
      · simp [Value.ownBlock] at h3
        have := h1.size
        exact .inr (by omega)
end
section
variable {w w' : World} {pb : Nat} {σ : St} {st : List Nat} {us : Nat} {sa ra : Option Addr} {sc rc : Nat} {F F1 F2 : Nat → Prop}
set_option maxHeartbeats 1000000 in
set_option maxRecDepth 100000 in
theorem s_alloc_full (h : Lie w pb σ st us sa ra sc rc) (hf : σ.free = []) :
    Calls Tryz.prog 93 #[.pointer (some ⟨pb, 0, none⟩)] w (fun e w' => e = .returned (.tuple #[.int .u32 0, .int .i64 2]) ∧ ∃ q, w' = w.drewN q) := by
  go_enter Tryz.func93, Tryz.ntmps93
  go_wp2_with fail
  refine (s_free h).mono ?_
  rintro e w1 ⟨rfl, q, rfl⟩
  rw [hf, List.length_nil]
  go_wp2
  go_ret2
  exact ⟨rfl, _, rfl⟩
set_option maxHeartbeats 1000000 in
set_option maxRecDepth 100000 in
theorem s_take_new (h : Lie w pb σ [] us sa ra sc rc) (hu : us < σ.cap) :
    Calls Tryz.prog 116 #[.pointer (some ⟨pb, 0, none⟩)] w (fun e w' => e = .returned (.int .u32 ((us + 1 : Nat) : Int)) ∧ w' = w.setCell ⟨pb, 2, none⟩ (.int .i64 ((us : Int) + 1))) := by
  obtain ⟨hc0, hc1, hc2⟩ := h.cells
  have hf2 := frozen_of_row w pb 2 _ _ h.box
  obtain ⟨hd0, hd1, hd2⟩ := (h.raw.setU (.int .i64 ((us : Int) + 1))).cells
  have hcap := h.ok.cap2
  have hui : (us : Int) < 65536 := by omega
  have hwr : IntKind.u32.wrap ((us : Int) + 1) = (us : Int) + 1 := by rw [IntKind.wrap_u32']; omega
  clear h
  go_enter Tryz.func116, Tryz.ntmps116
  go_wp2
  go_ret
  exact ⟨rfl, rfl⟩
set_option maxHeartbeats 1000000 in
set_option maxRecDepth 100000 in
theorem s_take_pop {s0 : List Nat} {X : Nat} (h : Lie w pb σ (s0 ++ [X]) us sa ra sc rc) :
    Calls Tryz.prog 116 #[.pointer (some ⟨pb, 0, none⟩)] w (fun e w' => e = .returned (.int .u32 (X : Int)) ∧ w' = w.setCell ⟨pb, 1, none⟩ (.slice ra s0.length rc)) := by
  have hl : (s0 ++ [X]).length = s0.length + 1 := by simp
  have hst := h.stlen.2
  rw [hl] at hst
  have hsi : (s0.length : Int) ≤ 65535 := by omega
  obtain ⟨gs, rfl⟩ := row_head h.stack (by omega)
  obtain ⟨hc0, hc1, hc2⟩ := h.cells
  rw [hl] at hc1
  have hcs : w.cell? ⟨gs, s0.length, none⟩ = some (.int .u32 (X : Int)) := by
    rw [h.stack.cellAt s0.length (by omega), u32s_get (by omega)]; simp
  have hsc := row_cap h.stack
  rw [hl] at hsc
  have hsc2 : (s0.length : Int) ≤ (rc : Int) := by omega
  have hf2 := frozen_of_row w pb 1 _ _ h.box
  clear h hl hst hsc
  go_enter Tryz.func116, Tryz.ntmps116
  go_wp2
  go_ret
  exact ⟨rfl, rfl⟩
/-- what the rest of Alloc needs, the slot being taken from the free ones -/
def Taken (w w' : World) (pb : Nat) (σ : St) (st : List Nat) (us : Nat) (sa ra : Option Addr) (sc rc : Nat) : Prop :=
  Raw w' pb σ.cap (sts σ) st (.int .i64 (us : Int)) sa ra sc rc ∧ Alters (Foot pb sa ra) (Foot pb sa ra) w w'
def STake (w : World) (pb : Nat) (σ : St) (sa ra : Option Addr) (sc rc i : Nat) (t : List Nat) (e : Ending) (w' : World) : Prop :=
  e = .returned (.tuple #[.int .u32 (i : Int), .int .i64 0]) ∧ ∃ (st : List Nat) (us : Nat), Lie w' pb (σ.take i t) st us sa ra sc rc ∧ Alters (Foot pb sa ra) (Foot pb sa ra) w w'
set_option maxHeartbeats 2000000 in
set_option maxRecDepth 100000 in
theorem s_alloc_by (h : Lie w pb σ st us sa ra sc rc) (j : Nat) (t : List Nat) (hf : σ.free = (j + 1) :: t) (st' : List Nat) (us' : Nat) (ht : t = st'.reverse ++ List.range' (us' + 1) (σ.cap - us')) (hu' : us' ≤ σ.cap)
    (HT : ∀ q, Calls Tryz.prog 116 #[.pointer (some ⟨pb, 0, none⟩)] (w.drewN q) fun e w' => e = .returned (.int .u32 ((j + 1 : Nat) : Int)) ∧ Taken w w' pb σ st' us' sa ra sc rc) :
    Calls Tryz.prog 93 #[.pointer (some ⟨pb, 0, none⟩)] w (STake w pb σ sa ra sc rc (j + 1) t) := by
  have hjm := (h.ok.free (j + 1)).1 (by rw [hf]; simp)
  have hcap := h.ok.cap2
  have hji : (j : Int) < (σ.cap : Int) := by omega
  have hj0 : (0 : Int) ≤ (j : Int) := by omega
  have hci : (σ.cap : Int) ≤ 65536 := by omega
  have hN : Hid (0 < σ.free.length) := by show 0 < σ.free.length; rw [hf]; simp
  have HF := Lib.hid hf
  have HTT := Lib.hid ht
  have HLIE := Lib.hid h
  obtain ⟨go, rfl⟩ := row_head2 h.states (by omega)
  have hgj := h.ok.gen (j + 1)
  clear hf ht h
  go_enter Tryz.func93, Tryz.ntmps93
  go_wp2_with fail
  refine (s_free HLIE.out).mono ?_
  rintro e w1 ⟨rfl, q, rfl⟩
  have hN2 := hN.out
  generalize σ.free.length = N at hN2 ⊢
  have hN3 : ¬ (N : Int) = 0 := by omega
  go_wp2_with fail
  refine (HT q).mono ?_
  rintro e w2 ⟨rfl, hR, hA⟩
  obtain ⟨hc0, hc1, hc2⟩ := hR.cells
  have hfo := hR.states.frozenAt (j * 2)
  have hco := (hR.states.cellAt (j * 2) (by omega)).trans (sts_at0 σ j (by omega))
  have hR2 := hR.setSt (j * 2) (.bool true)
  have hfg := hR2.states.frozenAt (j * 2 + 1)
  have hcg : (w2.setCell ⟨go, j * 2, none⟩ (.bool true)).cell? ⟨go, j * 2 + 1, none⟩ = some (.int .u32 (σ.gen (j + 1))) := by
    rw [hR2.states.cellAt (j * 2 + 1) (by omega), List.getElem?_set_ne (by omega)]
    exact sts_at1 σ j (by omega)
  have hR3 := hR2.setSt (j * 2 + 1) (.int .u32 ((σ.gen (j + 1) + 1) % 4294967296))
  have HR3 := Lib.hid hR3
  have HA := Lib.hid hA
  generalize hG : σ.gen (j + 1) = G at hcg hgj
  have HG := Lib.hid hG
  have hgw : IntKind.u32.wrap (G + 1) = (G + 1) % 4294967296 := IntKind.wrap_u32' _
  clear hR hR2 hR3 hA hG
  go_wp2
  go_ret2
  obtain rfl := HG.out
  have hp := HR3.out
  rw [← sts_take σ j t] at hp
  have hok := St.take_ok HLIE.out.ok HF.out
  refine ⟨rfl, st', us', Raw.lie (σ := σ.take (j + 1) t) hp hok HTT.out hu', ?_⟩
  exact HA.out.trans ((alters_set (a := ⟨go, j * 2, none⟩) (.inr (.inl ⟨_, rfl, rfl⟩))).trans (alters_set (a := ⟨go, j * 2 + 1, none⟩) (.inr (.inl ⟨_, rfl, rfl⟩))))
theorem s_alloc_new (h : Lie w pb σ [] us sa ra sc rc) (i : Nat) (t : List Nat) (hf : σ.free = i :: t) :
    Calls Tryz.prog 93 #[.pointer (some ⟨pb, 0, none⟩)] w (STake w pb σ sa ra sc rc i t) := by
  have hfr : us < σ.cap ∧ i = us + 1 ∧ t = List.range' (us + 1 + 1) (σ.cap - (us + 1)) := by
    have h1 := h.free
    rw [hf, List.reverse_nil, List.nil_append] at h1
    rcases Nat.lt_or_ge us σ.cap with h2 | h2
    · rw [show σ.cap - us = (σ.cap - (us + 1)) + 1 by omega, List.range'_succ] at h1
      simp only [List.cons.injEq] at h1
      exact ⟨h2, h1.1, h1.2⟩
    · rw [show σ.cap - us = 0 by omega] at h1; simp at h1
  obtain ⟨hu, rfl, ht⟩ := hfr
  refine s_alloc_by h us t hf [] (us + 1) (by simpa using ht) (by omega) fun q => ?_
  have hq := h.below (below_drewN (Below.refl _ _) q)
  refine (s_take_new hq hu).mono ?_
  rintro e w1 ⟨rfl, rfl⟩
  exact ⟨rfl, hq.raw.setU _, alters_drewN.trans (alters_set (a := ⟨pb, 2, none⟩) (.inl rfl))⟩
theorem s_alloc_pop {s0 : List Nat} {X : Nat} (h : Lie w pb σ (s0 ++ [X]) us sa ra sc rc) (i : Nat) (t : List Nat) (hf : σ.free = i :: t) :
    Calls Tryz.prog 93 #[.pointer (some ⟨pb, 0, none⟩)] w (STake w pb σ sa ra sc rc i t) := by
  have hX : i = X ∧ t = s0.reverse ++ List.range' (us + 1) (σ.cap - us) := by
    have h1 := h.free
    rw [hf] at h1
    simpa using h1
  obtain ⟨rfl, ht⟩ := hX
  have him := (h.ok.free i).1 (by rw [hf]; simp)
  obtain ⟨j, rfl⟩ : ∃ j, i = j + 1 := ⟨i - 1, by omega⟩
  refine s_alloc_by h j t hf s0 us ht h.us1 fun q => ?_
  have hq := h.below (below_drewN (Below.refl _ _) q)
  refine (s_take_pop hq).mono ?_
  rintro e w1 ⟨rfl, rfl⟩
  exact ⟨rfl, hq.raw.pop, alters_drewN.trans (alters_set (a := ⟨pb, 1, none⟩) (.inl rfl))⟩
end
theorem stateInfo : (Tryz.prog.info? 120).map (fun i => (i.zero, i.size, i.bytes)) = some (some (.agg #[.bool false, .int .u32 0]), 2, 8) := by kernel_rfl
theorem sts_init (n : Nat) : sts (St.init n) = (madeCells (Value.agg #[.bool false, .int .u32 0]).cells (n * 2)).toList := by
  apply List.ext_getElem
  · simp [sts, St.init, madeCells]
  · intro j h1 h2
    have h3 : (Value.agg #[.bool false, .int .u32 0]).cells = #[.bool false, .int .u32 0] := by kernel_rfl
    rcases Nat.mod_two_eq_zero_or_one j with h4 | h4 <;> simp [sts, St.init, madeCells, h3, h4]
set_option maxHeartbeats 1000000 in
set_option maxRecDepth 100000 in
theorem s_new_bad (n : Int) (w : World) (h1 : -9223372036854775808 ≤ n) (h2 : n ≤ 9223372036854775807) (h : n < 1 ∨ 65536 < n) :
    Calls Tryz.prog 60 #[.int .i64 n] w (Calm w (.tuple #[.pointer none, .int .i64 1])) := by
  rcases (show n < 1 ∨ 1 ≤ n by omega) with hn | hn
  · clear h
    go_enter Tryz.func60, Tryz.ntmps60
    go_wp2
    go_ret2
    exact ⟨rfl, Below.refl _ _⟩
  · have hm : 65536 < n := by omega
    clear h
    go_enter Tryz.func60, Tryz.ntmps60
    go_wp2
    go_ret2
    exact ⟨rfl, Below.refl _ _⟩
def SNew (w : World) (n : Nat) (e : Ending) (w' : World) : Prop :=
  ∃ (pb : Nat) (sa : Option Addr) (sc : Nat), e = .returned (.tuple #[.pointer (some ⟨pb, 0, none⟩), .int .i64 0]) ∧ Lie w' pb (St.init n) [] 0 sa none sc 0 ∧ (∀ k, Foot pb sa none k → w.heap.size ≤ k) ∧ Below w.heap.size w w'
set_option maxHeartbeats 2000000 in
set_option maxRecDepth 100000 in
theorem s_new (n : Nat) (w : World) (h1 : 1 ≤ n) (h2 : n ≤ 65536) : Calls Tryz.prog 60 #[.int .i64 (n : Int)] w (SNew w n) := by
  obtain ⟨i0, hi, hz0, hz1, hz2⟩ := info_parts stateInfo
  have hni : (n : Int) ≤ 65536 := by omega
  have hni1 : (1 : Int) ≤ (n : Int) := by omega
  have hni2 : ¬ n = 0 := by omega
  have hni3 : ¬ (n : Int) < 1 := by omega
  go_enter Tryz.func60, Tryz.ntmps60
  go_wp2_with (refine wpList_make_full _ rfl (.tmp 10) (.tmp 10) 121 rfl 0 120 i0 (.agg #[.bool false, .int .u32 0]) 2 Tryz.underlying121 hi hz0 hz1 .i64 .i64 (n : Int) (n : Int) n rfl rfl rfl rfl (by rw [hz2]; omega) (by unfold maxLen; omega) (Nat.zero_le _) ?_; intro w2 ho2 hg2)
  go_ret2
  have hsz : w.heap.size ≤ w2.heap.size := hg2.size
  have hb2 : Below w.heap.size w w2 := (Below.refl _ _).grown hg2 (Nat.le_refl _) (fun k hk => by cases hk)
  have hb3 := hb2.alloc hsz (Obj.cells #[Value.slice (some { block := w.heap.size, off := 0 }) n n, Value.slice none 0 0, Value.int IntKind.i64 0] 123)
  rw [← sts_init] at ho2
  have hlt := row_lt ho2 w.heap.size rfl
  refine ⟨w2.heap.size, some ⟨w.heap.size, 0, none⟩, n, rfl, ⟨St.init_ok h1 h2, by simp [St.init], Nat.zero_le _, ?_, ?_, World.ownsRow_nil _ _ _ _, ?_, by simp [Value.ownBlock]⟩, ?_, hb3⟩
  · exact heap_alloc_new w2 _
  · exact row_below ho2 ((Below.refl _ _).alloc (Nat.le_refl _) _)
  · simp [Value.ownBlock]; omega
  · intro k hk
    rcases hk with rfl | ⟨x, hx, rfl⟩ | ⟨x, hx, rfl⟩
    · exact hsz
    · simp at hx; subst hx; exact Nat.le_refl _
    · simp at hx
/-- the program keeps what is asked -/
def slotsImpl : Impl where
  Is := IsS
  dom := fun h k hk => by
    obtain ⟨pb, st, us, sa, ra, sc, rc, rfl, hl, hF⟩ := h
    exact hl.dom k ((hF k).1 hk)
  keep := fun h hk => by
    obtain ⟨pb, st, us, sa, ra, sc, rc, rfl, hl, hF⟩ := h
    exact ⟨pb, st, us, sa, ra, sc, rc, rfl, hl.keep fun k h1 => hk k ((hF k).2 h1), hF⟩
  ok := fun h => by
    obtain ⟨pb, st, us, sa, ra, sc, rc, rfl, hl, hF⟩ := h
    exact hl.ok
  ptr := fun h => by
    obtain ⟨pb, st, us, sa, ra, sc, rc, rfl, hl, hF⟩ := h
    exact ⟨_, rfl⟩
  new_ok := fun n w h1 h2 => (s_new n w h1 h2).mono fun e w1 ⟨pb, sa, sc, he, hl, hf, hb⟩ => ⟨_, Foot pb sa none, he, ⟨pb, [], 0, sa, none, sc, 0, rfl, hl, fun k => Iff.rfl⟩, hf, hb⟩
  new_bad := s_new_bad
  alloc := fun p σ F w h => by
    obtain ⟨pb, st, us, sa, ra, sc, rc, rfl, hl, hF⟩ := h
    obtain rfl : F = Foot pb sa ra := funext fun k => propext (hF k)
    cases hf : σ.free with
    | nil =>
      refine (s_alloc_full hl hf).mono ?_
      rintro e w1 ⟨rfl, q, rfl⟩
      exact ⟨Foot pb sa ra, alters_drewN, fun _ => ⟨rfl, ⟨pb, st, us, sa, ra, sc, rc, rfl, hl.keep fun k _ => rfl, fun k => Iff.rfl⟩⟩, fun i t h => by cases h⟩
    | cons i t =>
      have h1 : Calls Tryz.prog 93 #[.pointer (some ⟨pb, 0, none⟩)] w (STake w pb σ sa ra sc rc i t) := by
        rcases List.eq_nil_or_concat st with rfl | ⟨s0, X, rfl⟩
        · exact s_alloc_new hl i t hf
        · rw [List.concat_eq_append] at hl
          exact s_alloc_pop hl i t hf
      refine h1.mono ?_
      rintro e w1 ⟨rfl, st', us', hl', ha⟩
      refine ⟨Foot pb sa ra, ha, fun h => (by cases h), fun i' t' h => ?_⟩
      simp only [List.cons.injEq] at h
      obtain ⟨rfl, rfl⟩ := h
      exact ⟨rfl, ⟨pb, st', us', sa, ra, sc, rc, rfl, hl', fun k => Iff.rfl⟩⟩
  release := fun p σ F i w h hi => by
    obtain ⟨pb, st, us, sa, ra, sc, rc, rfl, hl, hF⟩ := h
    obtain rfl : F = Foot pb sa ra := funext fun k => propext (hF k)
    cases ho : σ.on i with
    | false =>
      refine (s_release_off hl i hi ho).mono ?_
      rintro e w1 ⟨rfl, q, rfl⟩
      exact ⟨Foot pb sa ra, alters_drewN, fun _ => ⟨rfl, ⟨pb, st, us, sa, ra, sc, rc, rfl, hl.keep fun k _ => rfl, fun k => Iff.rfl⟩⟩, fun h => by cases h⟩
    | true =>
      obtain ⟨j, rfl⟩ : ∃ j, i = j + 1 := ⟨i - 1, by have := hl.ok.on i ho; omega⟩
      refine (s_release_on hl j hi ho).mono ?_
      rintro e w1 ⟨rfl, ra', rc', hl', ha⟩
      exact ⟨Foot pb sa ra', ha, fun h => (by cases h), fun _ => ⟨rfl, ⟨pb, _, us, sa, ra', sc, rc', rfl, hl', fun k => Iff.rfl⟩⟩⟩
  allocated := fun p σ F i w h hi => by
    obtain ⟨pb, st, us, sa, ra, sc, rc, rfl, hl, hF⟩ := h
    exact s_allocated hl i hi
  generation := fun p σ F i w h hi => by
    obtain ⟨pb, st, us, sa, ra, sc, rc, rfl, hl, hF⟩ := h
    exact s_generation hl i hi
  freeN := fun p σ F w h => by
    obtain ⟨pb, st, us, sa, ra, sc, rc, rfl, hl, hF⟩ := h
    exact s_free hl
  capacity := fun p σ F w h => by
    obtain ⟨pb, st, us, sa, ra, sc, rc, rfl, hl, hF⟩ := h
    exact s_capacity hl
  order := fun p σ F w h => by
    obtain ⟨pb, st, us, sa, ra, sc, rc, rfl, hl, hF⟩ := h
    exact s_order hl
/-- the cells of slot i -/
def celV (A : Ar) (i : Nat) : List Value := ndV (A.nd i) ++ [.int .i64 (A.cnt i)]
def celsV (A : Ar) : List Value := (List.range' 1 A.σ.cap).flatMap (celV A)
theorem celflat {α : Type} {f : α → List Value} {m : Nat} (hm : ∀ x, (f x).length = m) : ∀ (l : List α) (i j : Nat) (x : α), l[i]? = some x → j < m → (l.flatMap f)[i * m + j]? = (f x)[j]?
  | [], i, j, x, h, hj => by simp at h
  | a :: t, 0, j, x, h, hj => by
    simp at h
    subst h
    rw [List.flatMap_cons, Nat.zero_mul, Nat.zero_add, List.getElem?_append_left (by rw [hm]; exact hj)]
  | a :: t, i + 1, j, x, h, hj => by
    simp at h
    rw [List.flatMap_cons, List.getElem?_append_right (by rw [hm, Nat.succ_mul]; omega), hm, show (i + 1) * m + j - m = i * m + j by rw [Nat.succ_mul]; omega]
    exact celflat hm t i j x h hj
theorem cel_len (A : Ar) (i : Nat) : (celV A i).length = 9 := by simp [celV, ndV]
theorem cels_len (A : Ar) : (celsV A).length = A.σ.cap * 9 := by
  unfold celsV
  have key : ∀ l : List Nat, (l.flatMap (celV A)).length = l.length * 9 := fun l => by
    induction l with
    | nil => rfl
    | cons a t ih => rw [List.flatMap_cons, List.length_append, ih, cel_len]; simp; omega
  rw [key, List.length_range']
theorem cels_at (A : Ar) {i j : Nat} (hi : i < A.σ.cap) (hj : j < 9) : (celsV A)[i * 9 + j]? = (celV A (i + 1))[j]? :=
  celflat (f := celV A) (m := 9) (cel_len A) (List.range' 1 A.σ.cap) i j (i + 1) (by rw [List.getElem?_range' hi]; simp; omega) hj
/-- two rows of cells that agree cell by cell -/
theorem cels_ext {A : Ar} {l : List Value} (hl : l.length = A.σ.cap * 9) (h : ∀ i j, i < A.σ.cap → j < 9 → l[i * 9 + j]? = (celV A (i + 1))[j]?) : l = celsV A := by
  apply List.ext_getElem?
  intro k
  by_cases hk : k < A.σ.cap * 9
  · have h1 := h (k / 9) (k % 9) (by omega) (by omega)
    have h2 := cels_at A (i := k / 9) (j := k % 9) (by omega) (by omega)
    rw [show k / 9 * 9 + k % 9 = k by omega] at h1 h2
    rw [h1, h2]
  · rw [List.getElem?_eq_none (by omega), List.getElem?_eq_none (by rw [cels_len]; omega)]
/-- cells stored one behind the other -/
def patch : List Value → Nat → List Value → List Value
  | xs, _, [] => xs
  | xs, o, v :: t => patch (xs.set o v) (o + 1) t
theorem patch_len : ∀ (vs xs : List Value) (o : Nat), (patch xs o vs).length = xs.length
  | [], xs, o => rfl
  | v :: t, xs, o => by rw [patch, patch_len t, List.length_set]
theorem patch_at : ∀ (vs xs : List Value) (o k : Nat), (patch xs o vs)[k]? = if o ≤ k ∧ k < o + vs.length ∧ k < xs.length then vs[k - o]? else xs[k]?
  | [], xs, o, k => by rw [patch, if_neg (by simp; omega)]
  | v :: t, xs, o, k => by
    rw [patch, patch_at t, List.length_set]
    by_cases h1 : o + 1 ≤ k ∧ k < o + 1 + t.length ∧ k < xs.length
    · rw [if_pos h1, if_pos (by simp only [List.length_cons]; omega), show k - o = (k - (o + 1)) + 1 by omega, List.getElem?_cons_succ]
    · rw [if_neg h1, List.getElem?_set]
      by_cases h2 : o = k
      · subst h2
        rw [if_pos rfl]
        by_cases h3 : o < xs.length
        · rw [if_pos h3, if_pos (by simp only [List.length_cons]; omega)]; simp
        · rw [if_neg h3, if_neg (by omega), List.getElem?_eq_none (by omega)]
      · rw [if_neg h2, if_neg (by simp only [List.length_cons]; omega)]
/-- every count is one -/
def Ar.Fit (A : Ar) : Prop := ∀ i, 0 ≤ A.cnt i ∧ A.cnt i ≤ 9223372036854775807
structure LieA (I : Impl) (w : World) (ab : Nat) (sp : Addr) (A : Ar) (rd : Int) (ca : Option Addr) (cc : Nat) (Fs : Nat → Prop) : Prop where
  slots : I.Is w (.pointer (some sp)) A.σ Fs
  box : w.heap[ab]? = some (.cells #[.pointer (some sp), .slice ca A.σ.cap cc, .int .u64 rd] 79 (0, 0))
  cels : w.ownsRow 0 83 9 (.slice ca A.σ.cap cc) A.σ.cap (celsV A)
  off : ∀ i, A.σ.on i = false → A.cnt i = 0 ∧ A.nd i = Nd.zero
  fit : A.Fit
  abF : ¬ Fs ab
  caF : ∀ k, (Value.slice ca A.σ.cap cc).ownBlock = some k → ¬ Fs k ∧ k ≠ ab
def FootA (ab : Nat) (ca : Option Addr) (Fs : Nat → Prop) (k : Nat) : Prop := k = ab ∨ (∃ x, ca = some x ∧ x.block = k) ∨ Fs k
section
variable {I : Impl} {w w' : World} {ab : Nat} {sp : Addr} {A A' : Ar} {rd : Int} {ca : Option Addr} {cc g : Nat} {Fs Fs' : Nat → Prop}
theorem LieA.ok (h : LieA I w ab sp A rd ca cc Fs) : A.σ.Ok := I.ok h.slots
theorem LieA.lt (h : LieA I w ab sp A rd ca cc Fs) : ab < w.heap.size := (Array.getElem?_eq_some_iff.1 h.box).1
theorem LieA.below (h : LieA I w ab sp A rd ca cc Fs) (hb : Below w.heap.size w w') : LieA I w' ab sp A rd ca cc Fs :=
  ⟨I.below h.slots hb, (hb.block ab h.lt).trans h.box, row_below h.cels hb, h.off, h.fit, h.abF, h.caF⟩
theorem LieA.cells (h : LieA I w ab sp A rd ca cc Fs) : w.cell? ⟨ab, 0, none⟩ = some (.pointer (some sp)) ∧ w.cell? ⟨ab, 1, none⟩ = some (.slice ca A.σ.cap cc) ∧ w.cell? ⟨ab, 2, none⟩ = some (.int .u64 rd) := by
  refine ⟨?_, ?_, ?_⟩ <;> (rw [cell_of_row _ _ _ _ _ _ h.box]; rfl)
theorem LieA.dom (h : LieA I w ab sp A rd ca cc Fs) : ∀ k, FootA ab ca Fs k → k < w.heap.size := by
  intro k hk
  rcases hk with rfl | ⟨x, rfl, rfl⟩ | hk
  · exact h.lt
  · exact (row_lt h.cels _ rfl).2
  · exact I.dom h.slots k hk
theorem LieA.keep (h : LieA I w ab sp A rd ca cc Fs) (hk : ∀ k, FootA ab ca Fs k → w'.heap[k]? = w.heap[k]?) : LieA I w' ab sp A rd ca cc Fs :=
  ⟨I.keep h.slots fun k e => hk k (.inr (.inr e)), (hk ab (.inl rfl)).trans h.box, row_keep h.cels fun k e => hk k (.inr (.inl (foot_own e))), h.off, h.fit, h.abF, h.caF⟩
/-- what lies in memory while slot numbers and cells do not yet agree: the allocator's state, the row's cells, each for itself -/
structure RawA (I : Impl) (w : World) (ab : Nat) (sp : Addr) (σ : St) (xs : List Value) (rd : Int) (g : Nat) (cc : Nat) (Fs : Nat → Prop) : Prop where
  slots : I.Is w (.pointer (some sp)) σ Fs
  box : w.heap[ab]? = some (.cells #[.pointer (some sp), .slice (some ⟨g, 0, none⟩) σ.cap cc, .int .u64 rd] 79 (0, 0))
  cels : w.ownsRow 0 83 9 (.slice (some ⟨g, 0, none⟩) σ.cap cc) σ.cap xs
  abF : ¬ Fs ab
  caF : ¬ Fs g ∧ g ≠ ab
theorem LieA.raw (h : LieA I w ab sp A rd (some ⟨g, 0, none⟩) cc Fs) : RawA I w ab sp A.σ (celsV A) rd g cc Fs := ⟨h.slots, h.box, h.cels, h.abF, h.caF g rfl⟩
theorem RawA.lie {σ : St} {xs : List Value} (h : RawA I w ab sp σ xs rd g cc Fs) (hσ : A.σ = σ) (hx : xs = celsV A) (off : ∀ i, A.σ.on i = false → A.cnt i = 0 ∧ A.nd i = Nd.zero) (fit : A.Fit) : LieA I w ab sp A rd (some ⟨g, 0, none⟩) cc Fs := by
  subst hσ hx
  exact ⟨h.slots, h.box, h.cels, off, fit, h.abF, fun k hk => by simp [Value.ownBlock] at hk; subst hk; exact h.caF⟩
section
variable {σ σ' : St} {xs : List Value}
theorem RawA.lt (h : RawA I w ab sp σ xs rd g cc Fs) : ab < w.heap.size := (Array.getElem?_eq_some_iff.1 h.box).1
theorem RawA.glt (h : RawA I w ab sp σ xs rd g cc Fs) : g < w.heap.size := (row_lt h.cels g rfl).2
theorem RawA.cells (h : RawA I w ab sp σ xs rd g cc Fs) : w.cell? ⟨ab, 0, none⟩ = some (.pointer (some sp)) ∧ w.cell? ⟨ab, 1, none⟩ = some (.slice (some ⟨g, 0, none⟩) σ.cap cc) ∧ w.cell? ⟨ab, 2, none⟩ = some (.int .u64 rd) := by
  refine ⟨?_, ?_, ?_⟩ <;> (rw [cell_of_row _ _ _ _ _ _ h.box]; rfl)
/-- the allocator took a step -/
theorem RawA.step (h : RawA I w ab sp σ xs rd g cc Fs) (ha : Alters Fs Fs' w w') (hs : I.Is w' (.pointer (some sp)) σ' Fs') (hc : σ'.cap = σ.cap) : RawA I w' ab sp σ' xs rd g cc Fs' ∧ Alters (FootA ab (some ⟨g, 0, none⟩) Fs) (FootA ab (some ⟨g, 0, none⟩) Fs') w w' := by
  have hn : ∀ k, k < w.heap.size → ¬ Fs k → ¬ Fs' k := fun k hk hf hf' => by
    rcases ha.foot k hf' with h1 | h1
    · exact hf h1
    · omega
  refine ⟨⟨hs, by rw [hc]; exact (ha.block ab h.lt h.abF).trans h.box, by rw [hc]; exact row_keep h.cels fun k e => ha.block k (row_lt h.cels k e).2 (by simp [Value.ownBlock] at e; subst e; exact h.caF.1), hn ab h.lt h.abF, hn g h.glt h.caF.1, h.caF.2⟩, ⟨ha.os, ha.tape, ha.output, ha.size, fun k hk hf => ha.block k hk fun e => hf (.inr (.inr e)), fun k hk => ?_⟩⟩
  · rcases hk with rfl | hk | hk
    · exact .inl (.inl rfl)
    · exact .inl (.inr (.inl hk))
    · rcases ha.foot k hk with h1 | h1
      · exact .inl (.inr (.inr h1))
      · exact .inr h1
/-- a cell of the row is written -/
theorem RawA.set (h : RawA I w ab sp σ xs rd g cc Fs) (j : Nat) (v : Value) : RawA I (w.setCell ⟨g, j, none⟩ v) ab sp σ (xs.set j v) rd g cc Fs ∧ Alters (FootA ab (some ⟨g, 0, none⟩) Fs) (FootA ab (some ⟨g, 0, none⟩) Fs) w (w.setCell ⟨g, j, none⟩ v) := by
  refine ⟨⟨I.keep h.slots fun k e => heap_setCell_other _ _ _ _ fun e2 => h.caF.1 (by have e3 : k = g := e2; rw [e3] at e; exact e), (heap_setCell_other _ _ _ _ (fun e2 => h.caF.2 e2.symm)).trans h.box, (h.cels.stored j v).1, h.abF, h.caF⟩, alters_set (.inr (.inl ⟨_, rfl, rfl⟩))⟩
/-- cells of the row are written -/
theorem RawA.sets : ∀ (vs : List Value) {w : World} {xs : List Value} (o : Nat), RawA I w ab sp σ xs rd g cc Fs → RawA I (w.setCells g o vs) ab sp σ (patch xs o vs) rd g cc Fs ∧ Alters (FootA ab (some ⟨g, 0, none⟩) Fs) (FootA ab (some ⟨g, 0, none⟩) Fs) w (w.setCells g o vs)
  | [], w, xs, o, h => ⟨h, Alters.refl _ _⟩
  | v :: t, w, xs, o, h => by
    obtain ⟨h1, h2⟩ := h.set o v
    obtain ⟨h3, h4⟩ := RawA.sets t (o + 1) h1
    exact ⟨h3, h2.trans h4⟩
/-- the reads are written -/
theorem RawA.reads (h : RawA I w ab sp σ xs rd g cc Fs) (x : Int) : RawA I (w.setCell ⟨ab, 2, none⟩ (.int .u64 x)) ab sp σ xs x g cc Fs ∧ Alters (FootA ab (some ⟨g, 0, none⟩) Fs) (FootA ab (some ⟨g, 0, none⟩) Fs) w (w.setCell ⟨ab, 2, none⟩ (.int .u64 x)) := by
  refine ⟨⟨I.keep h.slots fun k e => heap_setCell_other _ _ _ _ fun e2 => h.abF (by have e3 : k = ab := e2; rw [e3] at e; exact e), ?_, row_keep h.cels fun k e => heap_setCell_other _ _ _ _ fun e2 => ?_, h.abF, h.caF⟩, alters_set (.inl rfl)⟩
  · rw [heap_setCell_same _ _ _ _ _ _ h.box]; rfl
  · simp [Value.ownBlock] at e
    have e3 : k = ab := e2
    exact h.caF.2 (by omega)
end
/-- the nine cells of slot j + 1 -/
theorem LieA.nine (h : LieA I w ab sp A rd (some ⟨g, 0, none⟩) cc Fs) {j : Nat} (hj : j < A.σ.cap) :
    w.cell? ⟨g, j * 9, none⟩ = some (.int .i64 (A.nd (j + 1)).key) ∧ w.cell? ⟨g, j * 9 + 1, none⟩ = some (.int .i64 (A.nd (j + 1)).val) ∧ w.cell? ⟨g, j * 9 + 2, none⟩ = some (.int .u32 ((A.nd (j + 1)).left : Int)) ∧ w.cell? ⟨g, j * 9 + 3, none⟩ = some (.int .u32 ((A.nd (j + 1)).right : Int)) ∧
    w.cell? ⟨g, j * 9 + 4, none⟩ = some (.int .i64 (A.nd (j + 1)).size) ∧ w.cell? ⟨g, j * 9 + 5, none⟩ = some (.int .i64 (A.nd (j + 1)).sum) ∧ w.cell? ⟨g, j * 9 + 6, none⟩ = some (.int .i64 (A.nd (j + 1)).mn) ∧ w.cell? ⟨g, j * 9 + 7, none⟩ = some (.int .i64 (A.nd (j + 1)).mx) ∧ w.cell? ⟨g, j * 9 + 8, none⟩ = some (.int .i64 (A.cnt (j + 1))) := by
  have key : ∀ k v, k < 9 → (celV A (j + 1))[k]? = some v → w.cell? ⟨g, j * 9 + k, none⟩ = some v := fun k v hk hv => by
    rw [h.cels.cellAt (j * 9 + k) (by omega), cels_at A hj hk]; exact hv
  exact ⟨key 0 _ (by decide) rfl, key 1 _ (by decide) rfl, key 2 _ (by decide) rfl, key 3 _ (by decide) rfl, key 4 _ (by decide) rfl, key 5 _ (by decide) rfl, key 6 _ (by decide) rfl, key 7 _ (by decide) rfl, key 8 _ (by decide) rfl⟩
end
def Ar.putC (A : Ar) (i : Nat) (x : Int) : Ar := ⟨A.σ, A.nd, fun j => if j = i then x else A.cnt j⟩
theorem cels_putC (A : Ar) {j : Nat} (x : Int) (hj : j < A.σ.cap) : (celsV A).set (j * 9 + 8) (.int .i64 x) = celsV (A.putC (j + 1) x) := by
  refine cels_ext (A := A.putC (j + 1) x) (by rw [List.length_set, cels_len]; rfl) fun i k hi hk => ?_
  have hi' : i < A.σ.cap := hi
  rw [List.getElem?_set]
  by_cases e : j * 9 + 8 = i * 9 + k
  · have e1 : i = j := by omega
    have e2 : k = 8 := by omega
    subst e1 e2
    rw [if_pos rfl, if_pos (by rw [cels_len]; omega)]
    show _ = some (Value.int IntKind.i64 (if i + 1 = i + 1 then x else A.cnt (i + 1)))
    rw [if_pos rfl]
  · rw [if_neg e, cels_at A hi' hk]
    unfold celV
    by_cases e1 : i = j
    · subst e1
      have hk8 : k < 8 := by omega
      rw [List.getElem?_append_left (by simpa [ndV] using hk8), List.getElem?_append_left (by simpa [ndV] using hk8)]
      rfl
    · show _ = (ndV (A.nd (i + 1)) ++ [Value.int IntKind.i64 (if i + 1 = j + 1 then x else A.cnt (i + 1))])[k]?
      rw [if_neg (by omega)]
section
variable {I : Impl} {w w' : World} {ab : Nat} {sp : Addr} {A A' : Ar} {rd : Int} {ca : Option Addr} {cc g : Nat} {Fs Fs' : Nat → Prop}
theorem LieA.putC (h : LieA I w ab sp A rd (some ⟨g, 0, none⟩) cc Fs) {j : Nat} (hj : A.σ.on (j + 1) = true) (x : Int) (hx : 0 ≤ x ∧ x ≤ 9223372036854775807) :
    LieA I (w.setCell ⟨g, j * 9 + 8, none⟩ (.int .i64 x)) ab sp (A.putC (j + 1) x) rd (some ⟨g, 0, none⟩) cc Fs ∧ Alters (FootA ab (some ⟨g, 0, none⟩) Fs) (FootA ab (some ⟨g, 0, none⟩) Fs) w (w.setCell ⟨g, j * 9 + 8, none⟩ (.int .i64 x)) := by
  obtain ⟨h1, h2⟩ := h.raw.set (j * 9 + 8) (.int .i64 x)
  have hjc := h.ok.on _ hj
  refine ⟨h1.lie rfl (cels_putC A x (by omega)) (fun i hi => ?_) (fun i => ?_), h2⟩
  rotate_left
  · show 0 ≤ (if i = j + 1 then x else A.cnt i) ∧ (if i = j + 1 then x else A.cnt i) ≤ 9223372036854775807
    split
    · exact hx
    · exact h.fit i
  have hi' : A.σ.on i = false := hi
  have hne : i ≠ j + 1 := fun e => by subst e; rw [hj] at hi'; cases hi'
  show (if i = j + 1 then x else A.cnt i) = 0 ∧ _
  rw [if_neg hne]
  exact h.off i hi'
set_option maxHeartbeats 1000000 in
set_option maxRecDepth 100000 in
theorem a_cell_on (h : LieA I w ab sp A rd (some ⟨g, 0, none⟩) cc Fs) (j : Nat) (hj : A.σ.on (j + 1) = true) :
    Calls Tryz.prog 58 #[.pointer (some ⟨ab, 0, none⟩), .int .u32 ((j : Int) + 1)] w (Quiet w (.pointer (some ⟨g, j * 9, none⟩))) := by
  obtain ⟨c0, c1, c2⟩ := h.cells
  have hjc := h.ok.on _ hj
  have hcap := h.ok.cap2
  have hji : (j : Int) < (A.σ.cap : Int) := by omega
  have hj0 : (0 : Int) ≤ (j : Int) := by omega
  have hj4 : (j : Int) + 1 < 4294967296 := by omega
  have HA := Lib.hid (I.allocated _ _ _ (j + 1) _ h.slots (by omega))
  clear h hjc hcap
  go_enter Tryz.func58, Tryz.ntmps58
  go_wp2_with fail
  refine HA.out.mono ?_
  rintro e w1 ⟨rfl, q, rfl⟩
  rw [hj]
  have d1 : (w.drewN q).cell? ⟨ab, 1, none⟩ = some (.slice (some ⟨g, 0, none⟩) A.σ.cap cc) := c1
  generalize hW : w.drewN q = w1 at d1 ⊢
  have HW := Lib.hid hW
  clear hW c0 c1 c2 hj HA
  go_wp2_with fail
  go_ret
  exact ⟨rfl, q, HW.out.symm⟩
set_option maxHeartbeats 1000000 in
set_option maxRecDepth 100000 in
theorem a_cell_off (h : LieA I w ab sp A rd ca cc Fs) (i : Nat) (hi : i < 4294967296) (ho : A.σ.on i = false) :
    Calls Tryz.prog 58 #[.pointer (some ⟨ab, 0, none⟩), .int .u32 (i : Int)] w (Quiet w (.pointer none)) := by
  obtain ⟨c0, c1, c2⟩ := h.cells
  have HA := Lib.hid (I.allocated _ _ _ i _ h.slots hi)
  clear h
  go_enter Tryz.func58, Tryz.ntmps58
  go_wp2_with fail
  refine HA.out.mono ?_
  rintro e w1 ⟨rfl, q, rfl⟩
  rw [ho]
  clear HA c0 c1 c2 ho
  go_wp2_with fail
  go_ret
  exact ⟨rfl, q, rfl⟩
set_option maxHeartbeats 1000000 in
set_option maxRecDepth 100000 in
theorem a_isIndex (h : LieA I w ab sp A rd ca cc Fs) (i : Nat) (hi : i < 4294967296) :
    Calls Tryz.prog 49 #[.pointer (some ⟨ab, 0, none⟩), .int .u32 (i : Int)] w (Quiet w (.bool (decide (i = 0) || A.σ.on i))) := by
  obtain ⟨c0, c1, c2⟩ := h.cells
  by_cases h0 : i = 0
  · subst h0
    clear h
    rw [show (decide (0 = 0) || A.σ.on 0) = true by simp]
    go_enter Tryz.func49, Tryz.ntmps49
    go_wp2
    go_ret
    exact ⟨rfl, 0, rfl⟩
  · have hi0 : ((i : Int) == 0) = false := beq_eq_false_iff_ne.2 (by omega)
    have HA := Lib.hid (I.allocated _ _ _ i _ h.slots hi)
    rw [show (decide (i = 0) || A.σ.on i) = A.σ.on i by simp [h0]]
    clear h h0
    go_enter Tryz.func49, Tryz.ntmps49
    go_wp2_with fail
    refine HA.out.mono ?_
    rintro e w2 ⟨rfl, q, rfl⟩
    clear c0 c1 c2 HA
    go_wp2_with fail
    go_ret
    exact ⟨rfl, q, rfl⟩
set_option maxHeartbeats 1000000 in
set_option maxRecDepth 100000 in
theorem a_addRef_off (h : LieA I w ab sp A rd ca cc Fs) (i : Nat) (hi : i < 4294967296) (ho : A.σ.on i = false) :
    Calls Tryz.prog 66 #[.pointer (some ⟨ab, 0, none⟩), .int .u32 (i : Int)] w (fun e w' => (∃ v, e = .returned v) ∧ Below w.heap.size w w') := by
  have HA := Lib.hid (a_cell_off h i hi ho)
  clear h ho
  go_enter Tryz.func66, Tryz.ntmps66
  go_wp2_with fail
  refine HA.out.mono ?_
  rintro e w2 ⟨rfl, q, rfl⟩
  clear HA
  go_wp2_with fail
  go_end0
  exact ⟨⟨_, rfl⟩, below_drewN (Below.refl _ _) _⟩
set_option maxHeartbeats 1000000 in
set_option maxRecDepth 100000 in
theorem a_addRef (h : LieA I w ab sp A rd (some ⟨g, 0, none⟩) cc Fs) (j : Nat) (hj : A.σ.on (j + 1) = true) (hc : A.cnt (j + 1) < 4611686018427387904) :
    Calls Tryz.prog 66 #[.pointer (some ⟨ab, 0, none⟩), .int .u32 ((j : Int) + 1)] w (fun e w' => (∃ v, e = .returned v) ∧ LieA I w' ab sp (A.inc (j + 1)) rd (some ⟨g, 0, none⟩) cc Fs ∧ Alters (FootA ab (some ⟨g, 0, none⟩) Fs) (FootA ab (some ⟨g, 0, none⟩) Fs) w w') := by
  have HA := Lib.hid (a_cell_on h j hj)
  have HH := Lib.hid h
  have HJ := Lib.hid hj
  have hjc := h.ok.on _ hj
  have hc0 := (h.fit (j + 1)).1
  have hcap := h.ok.cap2
  have hj4 : (j : Int) + 1 < 4294967296 := by omega
  have hjl : j < A.σ.cap := by omega
  clear h hj hjc hcap
  go_enter Tryz.func66, Tryz.ntmps66
  go_wp2_with fail
  refine HA.out.mono ?_
  rintro e w2 ⟨rfl, q, rfl⟩
  have hb : Below w.heap.size w (w.drewN q) := below_drewN (Below.refl _ _) q
  have h2 := HH.out.below hb
  generalize w.drewN q = w2 at hb h2 ⊢
  have c8 := (h2.nine hjl).2.2.2.2.2.2.2.2
  have f8 := h2.cels.frozenAt (j * 9 + 8)
  obtain ⟨h3, h4⟩ := h2.putC HJ.out (A.cnt (j + 1) + 1) (by have := h2.fit (j + 1); omega)
  have H3 := Lib.hid h3
  have H4 := Lib.hid ((Alters.of_below hb).trans h4)
  clear HA h2 h3 h4 hb hjl
  generalize hC : A.cnt (j + 1) = C at c8 hc hc0 H3 H4
  have HC := Lib.hid hC
  clear hC
  go_wp2_with fail
  go_end0
  refine ⟨⟨_, rfl⟩, ?_, H4.out⟩
  have e : A.inc (j + 1) = A.putC (j + 1) (C + 1) := by unfold Ar.inc Ar.putC; rw [HC.out]
  rw [e]
  exact H3.out
set_option maxHeartbeats 1000000 in
set_option maxRecDepth 100000 in
theorem a_retain_bad (h : LieA I w ab sp A rd ca cc Fs) (i : Nat) (hi : i < 4294967296) (hb : ¬ A.Idx i) :
    Calls Tryz.prog 37 #[.pointer (some ⟨ab, 0, none⟩), .int .u32 (i : Int)] w (Calm w (.int .i64 3)) := by
  have hx : (decide (i = 0) || A.σ.on i) = false := by
    unfold Ar.Idx at hb
    have h1 : ¬ i = 0 := fun e => hb (.inl e)
    have h2 : ¬ A.σ.on i = true := fun e => hb (.inr e)
    simp [h1, h2]
  have HI := Lib.hid (a_isIndex h i hi)
  have HX := Lib.hid hx
  clear h hb hx
  go_enter Tryz.func37, Tryz.ntmps37
  go_wp2_with fail
  refine HI.out.mono ?_
  rintro e w2 ⟨rfl, q, rfl⟩
  rw [HX.out]
  clear HI HX
  go_wp2_with fail
  go_ret
  exact ⟨rfl, below_drewN (Below.refl _ _) _⟩
set_option maxHeartbeats 1000000 in
set_option maxRecDepth 100000 in
theorem a_retain (h : LieA I w ab sp A rd (some ⟨g, 0, none⟩) cc Fs) (i : Nat) (hi : i < 4294967296) (hb : A.Idx i) (hc : A.σ.on i = true → A.cnt i < 4611686018427387904) :
    Calls Tryz.prog 37 #[.pointer (some ⟨ab, 0, none⟩), .int .u32 (i : Int)] w (fun e w' => e = .returned (.int .i64 0) ∧ LieA I w' ab sp (A.ret i) rd (some ⟨g, 0, none⟩) cc Fs ∧ Alters (FootA ab (some ⟨g, 0, none⟩) Fs) (FootA ab (some ⟨g, 0, none⟩) Fs) w w') := by
  have hx : (decide (i = 0) || A.σ.on i) = true := by
    rcases hb with e | e
    · simp [e]
    · simp [e]
  have HI := Lib.hid (a_isIndex h i hi)
  have HX := Lib.hid hx
  have HH := Lib.hid h
  have HOK := Lib.hid h.ok
  clear h hx
  by_cases h0 : i = 0
  · subst h0
    have ho : Hid (A.σ.on 0 = false) := by
      show A.σ.on 0 = false
      cases hq : A.σ.on 0 with
      | false => rfl
      | true => have := HOK.out.on 0 hq; omega
    clear hc hb
    go_enter Tryz.func37, Tryz.ntmps37
    go_wp2_with fail
    refine HI.out.mono ?_
    rintro e w2 ⟨rfl, q, rfl⟩
    rw [HX.out]
    have hb2 : Below w.heap.size w (w.drewN q) := below_drewN (Below.refl _ _) q
    generalize w.drewN q = w2 at hb2 ⊢
    have H2 := Lib.hid (HH.out.below hb2)
    have HB := Lib.hid hb2
    clear hb2
    go_wp2_with fail
    refine (a_addRef_off H2.out 0 (by omega) ho.out).mono ?_
    rintro e w3 ⟨⟨v, rfl⟩, hb3⟩
    have HB3 := Lib.hid hb3
    clear hb3
    go_wp2_with fail
    go_ret
    exact ⟨rfl, by unfold Ar.ret; rw [if_pos rfl]; exact H2.out.below HB3.out, .of_below (HB.out.trans (HB3.out.mono HB.out.size))⟩
  · have hon : A.σ.on i = true := by rcases hb with e | e; exact absurd e h0; exact e
    have hle := HOK.out.on i hon
    obtain ⟨j, rfl⟩ : ∃ j, i = j + 1 := ⟨i - 1, by omega⟩
    have HON := Lib.hid hon
    have HC := Lib.hid (hc hon)
    clear hb hon hle h0 hc
    go_enter Tryz.func37, Tryz.ntmps37
    go_wp2_with fail
    refine HI.out.mono ?_
    rintro e w2 ⟨rfl, q, rfl⟩
    rw [HX.out]
    have hb2 : Below w.heap.size w (w.drewN q) := below_drewN (Below.refl _ _) q
    generalize w.drewN q = w2 at hb2 ⊢
    have H2 := Lib.hid (HH.out.below hb2)
    have HB := Lib.hid hb2
    clear hb2
    go_wp2_with fail
    refine (a_addRef H2.out j HON.out HC.out).mono ?_
    rintro e w3 ⟨⟨v, rfl⟩, h3, ha3⟩
    have H3 := Lib.hid h3
    have HA3 := Lib.hid ha3
    clear h3 ha3
    go_wp2_with fail
    go_ret
    exact ⟨rfl, by unfold Ar.ret; rw [if_neg (by omega)]; exact H3.out, (Alters.of_below HB.out).trans HA3.out⟩
set_option maxHeartbeats 1000000 in
set_option maxRecDepth 100000 in
theorem a_free (h : LieA I w ab sp A rd ca cc Fs) : Calls Tryz.prog 51 #[.pointer (some ⟨ab, 0, none⟩)] w (Quiet w (.int .i64 (A.σ.free.length : Int))) := by
  obtain ⟨c0, c1, c2⟩ := h.cells
  have HA := Lib.hid (I.freeN _ _ _ _ h.slots)
  clear h
  go_enter Tryz.func51, Tryz.ntmps51
  go_wp2_with fail
  refine HA.out.mono ?_
  rintro e w1 ⟨rfl, q, rfl⟩
  clear HA c0 c1 c2
  go_wp2_with fail
  go_ret
  exact ⟨rfl, q, rfl⟩
set_option maxHeartbeats 1000000 in
set_option maxRecDepth 100000 in
theorem a_capacity (h : LieA I w ab sp A rd ca cc Fs) : Calls Tryz.prog 81 #[.pointer (some ⟨ab, 0, none⟩)] w (Quiet w (.int .i64 (A.σ.cap : Int))) := by
  obtain ⟨c0, c1, c2⟩ := h.cells
  have HA := Lib.hid (I.capacity _ _ _ _ h.slots)
  clear h
  go_enter Tryz.func81, Tryz.ntmps81
  go_wp2_with fail
  refine HA.out.mono ?_
  rintro e w1 ⟨rfl, q, rfl⟩
  clear HA c0 c1 c2
  go_wp2_with fail
  go_ret
  exact ⟨rfl, q, rfl⟩
set_option maxHeartbeats 1000000 in
set_option maxRecDepth 100000 in
theorem a_reads (h : LieA I w ab sp A rd ca cc Fs) : Calls Tryz.prog 16 #[.pointer (some ⟨ab, 0, none⟩)] w (Quiet w (.int .u64 rd)) := by
  obtain ⟨c0, c1, c2⟩ := h.cells
  clear h
  go_enter Tryz.func16, Tryz.ntmps16
  go_wp2_with fail
  go_ret
  exact ⟨rfl, 0, rfl⟩
end
def nodA (x : Nd) : Array Value := #[.int .i64 x.key, .int .i64 x.val, .int .u32 (x.left : Int), .int .u32 (x.right : Int), .int .i64 x.size, .int .i64 x.sum, .int .i64 x.mn, .int .i64 x.mx]
theorem nod_ones (x : Nd) : (nodA x).all (·.oneCell') = true := by simp [nodA, Value.oneCell']
theorem alt_row {F F' : Nat → Prop} {w w' : World} {p : Nat} {cs : Array Value} (h : Alters F F' w w') (hp : w.heap.size ≤ p) : Alters F F' w (w'.setRow p cs) :=
  ⟨h.os, h.tape, h.output, by have := h.size; simp [World.setRow]; omega, fun k hk hf => (setRow_other _ _ _ _ (by omega)).trans (h.block k hk hf), h.foot⟩
theorem below_row {w w' : World} {p : Nat} {cs : Array Value} (h : Below w.heap.size w w') (hp : w.heap.size ≤ p) : Below w.heap.size w (w'.setRow p cs) :=
  ⟨h.os, h.tape, h.output, by have := h.size; simp [World.setRow]; omega, fun k hk => (setRow_other _ _ _ _ (by omega)).trans (h.block k hk)⟩
theorem nodInfo : (Tryz.prog.info? 81).map (·.size) = some 8 := by kernel_rfl
theorem below_al (w : World) (o : Obj) : Below w.heap.size w (w.alloc o) := (Below.refl _ _).alloc (Nat.le_refl _) _
section
variable {I : Impl} {w w' : World} {ab : Nat} {sp : Addr} {A A' : Ar} {rd : Int} {ca : Option Addr} {cc g : Nat} {Fs Fs' : Nat → Prop}
theorem LieA.reads (h : LieA I w ab sp A rd (some ⟨g, 0, none⟩) cc Fs) (x : Int) : LieA I (w.setCell ⟨ab, 2, none⟩ (.int .u64 x)) ab sp A x (some ⟨g, 0, none⟩) cc Fs ∧ Alters (FootA ab (some ⟨g, 0, none⟩) Fs) (FootA ab (some ⟨g, 0, none⟩) Fs) w (w.setCell ⟨ab, 2, none⟩ (.int .u64 x)) := by
  obtain ⟨h1, h2⟩ := h.raw.reads x
  exact ⟨h1.lie rfl rfl h.off h.fit, h2⟩
def ANode (I : Impl) (w : World) (ab : Nat) (sp : Addr) (A : Ar) (rd : Int) (g cc : Nat) (Fs : Nat → Prop) (i : Nat) (e : Ending) (w' : World) : Prop :=
  e = .returned (.tuple #[.agg (nodA (A.nd i)), .bool (A.σ.on i)]) ∧ LieA I w' ab sp A (if A.σ.on i = true then rd + 1 else rd) (some ⟨g, 0, none⟩) cc Fs ∧ Alters (FootA ab (some ⟨g, 0, none⟩) Fs) (FootA ab (some ⟨g, 0, none⟩) Fs) w w'
set_option maxHeartbeats 2000000 in
set_option maxRecDepth 100000 in
theorem a_node (h : LieA I w ab sp A rd (some ⟨g, 0, none⟩) cc Fs) (i : Nat) (hi : i < 4294967296) (h0 : 0 ≤ rd) (h1 : rd < 4611686018427387904) :
    Calls Tryz.prog 95 #[.pointer (some ⟨ab, 0, none⟩), .int .u32 (i : Int)] w (ANode I w ab sp A rd g cc Fs i) := by
  have HU : Hid _ := Lib.hid Tryz.underlying81
  have HIN := Lib.hid nodInfo
  have hb1 := below_al w (Obj.cells (nodA Nd.zero) 81)
  have h2 := h.below hb1
  have HP := Lib.hid (heap_alloc_new w (Obj.cells (nodA Nd.zero) 81))
  have HB1 := Lib.hid hb1
  have HLQ : Hid (ab < w.heap.size) := h.lt
  have HGQ : Hid (g < w.heap.size) := h.raw.glt
  have HDOM : Hid (∀ k, FootA ab (some ⟨g, 0, none⟩) Fs k → k < w.heap.size) := h.dom
  have HOK := Lib.hid h.ok
  have HOFF := Lib.hid h.off
  have H2 := Lib.hid h2
  clear h hb1 h2
  go_enter Tryz.func95, Tryz.ntmps95
  go_upto_region 1 with fail
  rw [show #[Value.int .i64 0, .int .i64 0, .int .u32 0, .int .u32 0, .int .i64 0, .int .i64 0, .int .i64 0, .int .i64 0] = nodA Nd.zero from rfl]
  generalize w.alloc (Obj.cells (nodA Nd.zero) 81) = w1 at HP HB1 H2 ⊢
  obtain ⟨p, hp⟩ : ∃ p, w.heap.size = p := ⟨_, rfl⟩
  rw [hp] at HP HB1 HLQ HGQ HDOM ⊢
  have HPP := Lib.hid hp
  clear hp
  by_cases ho : A.σ.on i = true
  · have hle := HOK.out.on i ho
    obtain ⟨j, rfl⟩ : ∃ j, i = j + 1 := ⟨i - 1, by omega⟩
    have hj : j < A.σ.cap := by omega
    have HO := Lib.hid ho
    have HJ := Lib.hid hj
    clear ho hle hj hi
    go_wp2_with fail
    refine (a_cell_on H2.out j HO.out).mono ?_
    rintro e w2 ⟨rfl, q2, rfl⟩
    have hb2 : Below w1.heap.size w1 (w1.drewN q2) := below_drewN (Below.refl _ _) q2
    generalize w1.drewN q2 = w2 at hb2 ⊢
    have HP2 := Lib.hid ((hb2.block p (Array.getElem?_eq_some_iff.1 HP.out).1).trans HP.out)
    have H3 := Lib.hid (H2.out.below hb2)
    have HBB : Hid (Below w.heap.size w w2) := by
      have h9 := HB1.out
      rw [HPP.out]
      exact h9.trans (hb2.mono (by have := h9.size; rw [HPP.out] at this; exact this))
    clear hb2
    obtain ⟨c0, c1, c2⟩ := H3.out.cells
    have f2 := frozen_of_row w2 ab 2 _ _ H3.out.box
    go_upto_region 5 with fail
    obtain ⟨h4, ha4⟩ := H3.out.reads (rd + 1)
    have hP4 : (w2.setCell ⟨ab, 2, none⟩ (.int .u64 (rd + 1))).heap[p]? = some (Obj.cells (nodA Nd.zero) 81 (0, 0)) := (heap_setCell_other _ _ _ _ (show p ≠ ab by have := HLQ.out; omega)).trans HP2.out
    have HA4 := Lib.hid ((Alters.of_below HBB.out).trans ha4)
    have H4 := Lib.hid h4
    have HP4 := Lib.hid hP4
    clear h4 ha4 hP4 c0 c1 c2 f2
    generalize w2.setCell ⟨ab, 2, none⟩ (.int .u64 (rd + 1)) = w3 at H4 HA4 HP4 ⊢
    obtain ⟨g0, g1, g2, g3, g4, g5, g6, g7, _⟩ := H4.out.nine HJ.out
    go_wp2_with (refine wpList_store_row rfl 81 (.tmp 4) (.tmp 23) rfl p (nodA (A.nd (j + 1))) rfl rfl 81 _ HP4.out HIN.out rfl (nod_ones _) ?_)
    refine bodyPost_ret (results_row_tmp rfl _ _ p 81 (nodA (A.nd (j + 1))) (0, 0) _ rfl (setRow_heap _ _ _ _ _ _ HP4.out) HU.out rfl HIN.out) rfl ?_
    have hpp := HPP.out
    exact ⟨by rw [HO.out]; rfl, by rw [if_pos HO.out]; exact H4.out.keep fun k hk => setRow_other _ _ _ _ (by have := HDOM.out k hk; omega), alt_row HA4.out (by omega)⟩
  · have ho' : A.σ.on i = false := by simpa using ho
    have HZ := Lib.hid (HOFF.out i ho').2
    have HO := Lib.hid ho'
    clear ho ho'
    go_wp2_with fail
    refine (a_cell_off H2.out i hi HO.out).mono ?_
    rintro e w2 ⟨rfl, q2, rfl⟩
    have hb2 : Below w1.heap.size w1 (w1.drewN q2) := below_drewN (Below.refl _ _) q2
    generalize w1.drewN q2 = w2 at hb2 ⊢
    have HP2 := Lib.hid ((hb2.block p (Array.getElem?_eq_some_iff.1 HP.out).1).trans HP.out)
    have H3 := Lib.hid (H2.out.below hb2)
    have HBB : Hid (Below w.heap.size w w2) := by
      have h9 := HB1.out
      rw [HPP.out]
      exact h9.trans (hb2.mono (by have := h9.size; rw [HPP.out] at this; exact this))
    clear hb2
    go_wp2_with (refine wpList_store_row rfl 81 (.tmp 4) (.tmp 12) rfl p (nodA Nd.zero) rfl rfl 81 _ HP2.out HIN.out rfl (nod_ones _) ?_)
    refine bodyPost_ret (results_row_tmp rfl _ _ p 81 (nodA Nd.zero) (0, 0) _ rfl (setRow_heap _ _ _ _ _ _ HP2.out) HU.out rfl HIN.out) rfl ?_
    have hpp := HPP.out
    exact ⟨by rw [HO.out, HZ.out]; rfl, by rw [HO.out, if_neg (by simp)]; exact H3.out.keep fun k hk => setRow_other _ _ _ _ (by have := HDOM.out k hk; omega), alt_row (Alters.of_below HBB.out) (by omega)⟩
def ASize (I : Impl) (w : World) (ab : Nat) (sp : Addr) (A : Ar) (rd : Int) (g cc : Nat) (Fs : Nat → Prop) (i : Nat) (e : Ending) (w' : World) : Prop :=
  e = .returned (.int .i64 (A.nd i).size) ∧ LieA I w' ab sp A (if A.σ.on i = true then rd + 1 else rd) (some ⟨g, 0, none⟩) cc Fs ∧ Alters (FootA ab (some ⟨g, 0, none⟩) Fs) (FootA ab (some ⟨g, 0, none⟩) Fs) w w'
set_option maxHeartbeats 1000000 in
set_option maxRecDepth 100000 in
theorem a_size (h : LieA I w ab sp A rd (some ⟨g, 0, none⟩) cc Fs) (i : Nat) (hi : i < 4294967296) (h0 : 0 ≤ rd) (h1 : rd < 4611686018427387904) :
    Calls Tryz.prog 27 #[.pointer (some ⟨ab, 0, none⟩), .int .u32 (i : Int)] w (ASize I w ab sp A rd g cc Fs i) := by
  by_cases ho : A.σ.on i = true
  · have hle := h.ok.on i ho
    obtain ⟨j, rfl⟩ : ∃ j, i = j + 1 := ⟨i - 1, by omega⟩
    have HA := Lib.hid (a_cell_on h j ho)
    have HH := Lib.hid h
    have HO := Lib.hid ho
    have hjl : j < A.σ.cap := by omega
    have HJ := Lib.hid hjl
    clear h ho hle hjl
    go_enter Tryz.func27, Tryz.ntmps27
    go_wp2_with fail
    refine HA.out.mono ?_
    rintro e w2 ⟨rfl, q, rfl⟩
    have hb : Below w.heap.size w (w.drewN q) := below_drewN (Below.refl _ _) q
    have h2 := HH.out.below hb
    generalize w.drewN q = w2 at hb h2 ⊢
    obtain ⟨c0, c1, c2⟩ := h2.cells
    have f2 := frozen_of_row w2 ab 2 _ _ h2.box
    obtain ⟨h4, ha4⟩ := h2.reads (rd + 1)
    have H4 := Lib.hid h4
    have HA4 := Lib.hid ((Alters.of_below hb).trans ha4)
    clear h2 hb h4 ha4
    go_upto_region 5 with fail
    clear c0 c1 c2 f2
    generalize w2.setCell ⟨ab, 2, none⟩ (.int .u64 (rd + 1)) = w3 at H4 HA4 ⊢
    obtain ⟨g0, g1, g2, g3, g4, g5, g6, g7, _⟩ := H4.out.nine HJ.out
    go_wp2_with fail
    go_ret
    exact ⟨rfl, by rw [if_pos HO.out]; exact H4.out, HA4.out⟩
  · have ho' : A.σ.on i = false := by simpa using ho
    have hz := (h.off i ho').2
    have HA := Lib.hid (a_cell_off h i hi ho')
    have HZ := Lib.hid hz
    have HO := Lib.hid ho'
    have HH := Lib.hid h
    clear h ho ho' hz
    go_enter Tryz.func27, Tryz.ntmps27
    go_wp2_with fail
    refine HA.out.mono ?_
    rintro e w2 ⟨rfl, q, rfl⟩
    have HB : Hid (Below w.heap.size w (w.drewN q)) := below_drewN (Below.refl _ _) q
    generalize w.drewN q = w2 at HB ⊢
    clear HA
    go_wp2_with fail
    go_ret
    exact ⟨by rw [HZ.out]; rfl, by rw [HO.out, if_neg (by simp)]; exact HH.out.below HB.out, .of_below HB.out⟩
set_option maxHeartbeats 2000000 in
set_option maxRecDepth 100000 in
theorem a_child (h : LieA I w ab sp A rd (some ⟨g, 0, none⟩) cc Fs) (i : Nat) (hi : i < 4294967296) :
    Calls Tryz.prog 114 #[.pointer (some ⟨ab, 0, none⟩), .int .u32 (i : Int)] w (Calm w (.tuple #[.agg (nodA (A.nd i)), .bool (decide (i = 0) || A.σ.on i)])) := by
  have HU : Hid _ := Lib.hid Tryz.underlying81
  have HIN := Lib.hid nodInfo
  have hb1 := below_al w (Obj.cells (nodA Nd.zero) 81)
  have h2 := h.below hb1
  have HP := Lib.hid (heap_alloc_new w (Obj.cells (nodA Nd.zero) 81))
  have HB1 := Lib.hid hb1
  have HOK := Lib.hid h.ok
  have HOFF := Lib.hid h.off
  have H2 := Lib.hid h2
  clear h hb1 h2
  go_enter Tryz.func114, Tryz.ntmps114
  go_upto_region 1 with fail
  rw [show #[Value.int .i64 0, .int .i64 0, .int .u32 0, .int .u32 0, .int .i64 0, .int .i64 0, .int .i64 0, .int .i64 0] = nodA Nd.zero from rfl]
  generalize w.alloc (Obj.cells (nodA Nd.zero) 81) = w1 at HP HB1 H2 ⊢
  obtain ⟨p, hp⟩ : ∃ p, w.heap.size = p := ⟨_, rfl⟩
  rw [hp] at HP HB1 ⊢
  have HPP := Lib.hid hp
  clear hp
  by_cases ho : A.σ.on i = true
  · have hle := HOK.out.on i ho
    obtain ⟨j, rfl⟩ : ∃ j, i = j + 1 := ⟨i - 1, by omega⟩
    have hj : j < A.σ.cap := by omega
    have HO := Lib.hid ho
    have HJ := Lib.hid hj
    clear ho hle hj hi
    go_wp2_with fail
    refine (a_cell_on H2.out j HO.out).mono ?_
    rintro e w2 ⟨rfl, q2, rfl⟩
    have hb2 : Below w1.heap.size w1 (w1.drewN q2) := below_drewN (Below.refl _ _) q2
    generalize w1.drewN q2 = w2 at hb2 ⊢
    have HP2 := Lib.hid ((hb2.block p (Array.getElem?_eq_some_iff.1 HP.out).1).trans HP.out)
    have H3 := Lib.hid (H2.out.below hb2)
    have HBB : Hid (Below w.heap.size w w2) := by
      have h9 := HB1.out
      rw [HPP.out]
      exact h9.trans (hb2.mono (by have := h9.size; rw [HPP.out] at this; exact this))
    clear hb2
    obtain ⟨g0, g1, g2, g3, g4, g5, g6, g7, _⟩ := H3.out.nine HJ.out
    go_wp2_with (refine wpList_store_row rfl 81 (.tmp 4) (.tmp 15) rfl p (nodA (A.nd (j + 1))) rfl rfl 81 _ HP2.out HIN.out rfl (nod_ones _) ?_)
    refine bodyPost_ret (results_row_tmp rfl _ _ p 81 (nodA (A.nd (j + 1))) (0, 0) _ rfl (setRow_heap _ _ _ _ _ _ HP2.out) HU.out rfl HIN.out) rfl ?_
    have hpp := HPP.out
    exact ⟨by rw [HO.out]; simp, below_row HBB.out (by omega)⟩
  · have ho' : A.σ.on i = false := by simpa using ho
    have HZ := Lib.hid (HOFF.out i ho').2
    have HO := Lib.hid ho'
    clear ho ho'
    go_wp2_with fail
    refine (a_cell_off H2.out i hi HO.out).mono ?_
    rintro e w2 ⟨rfl, q2, rfl⟩
    have hb2 : Below w1.heap.size w1 (w1.drewN q2) := below_drewN (Below.refl _ _) q2
    generalize w1.drewN q2 = w2 at hb2 ⊢
    have HP2 := Lib.hid ((hb2.block p (Array.getElem?_eq_some_iff.1 HP.out).1).trans HP.out)
    have HBB : Hid (Below w.heap.size w w2) := by
      have h9 := HB1.out
      rw [HPP.out]
      exact h9.trans (hb2.mono (by have := h9.size; rw [HPP.out] at this; exact this))
    clear hb2
    have hdec : ((i : Int) == 0) = decide (i = 0) := by
      by_cases e : i = 0
      · subst e; rfl
      · rw [decide_eq_false e]; exact beq_eq_false_iff_ne.2 (by omega)
    obtain ⟨dz, hdz⟩ : ∃ dz, decide (i = 0) = dz := ⟨_, rfl⟩
    rw [hdz] at hdec
    have HDZ := Lib.hid hdz
    clear hdz
    go_wp2_with (refine wpList_store_row rfl 81 (.tmp 4) (.tmp 16) rfl p (nodA Nd.zero) rfl rfl 81 _ HP2.out HIN.out rfl (nod_ones _) ?_)
    refine bodyPost_ret (results_row_tmp rfl _ _ p 81 (nodA Nd.zero) (0, 0) _ rfl (setRow_heap _ _ _ _ _ _ HP2.out) HU.out rfl HIN.out) rfl ?_
    have hpp := HPP.out
    exact ⟨by rw [HO.out, HZ.out, HDZ.out]; simp, below_row HBB.out (by omega)⟩
end
def Nd.add (x c : Nd) : Nd := if c.size = 0 then x else ⟨x.key, x.val, x.left, x.right, x.size + c.size, IntKind.i64.wrap (x.sum + c.sum), min x.mn c.mn, max x.mx c.mx⟩
theorem row8n {w : World} {g : Nat} {t : TypeId} {c0 c1 c2 c3 c4 c5 c6 c7 : Value} (h : w.heap[g]? = some (.cells #[c0, c1, c2, c3, c4, c5, c6, c7] t (0, 0))) :
    w.cell? ⟨g, 0, none⟩ = some c0 ∧ w.cell? ⟨g, 1, none⟩ = some c1 ∧ w.cell? ⟨g, 2, none⟩ = some c2 ∧ w.cell? ⟨g, 3, none⟩ = some c3 ∧ w.cell? ⟨g, 4, none⟩ = some c4 ∧ w.cell? ⟨g, 5, none⟩ = some c5 ∧ w.cell? ⟨g, 6, none⟩ = some c6 ∧ w.cell? ⟨g, 7, none⟩ = some c7 := by
  refine ⟨?_, ?_, ?_, ?_, ?_, ?_, ?_, ?_⟩ <;> (rw [cell_of_row _ _ _ _ _ _ h]; rfl)
theorem min_run (a b : Int) (w : World) (ts : Array TypeId) (t : TypeId) : (Builtin.min_ ts t #[.int .i64 a, .int .i64 b]).run Tryz.prog w = .ok (.int .i64 (min a b)) w := by
  have h : (if b < a then b else a) = min a b := by rw [Int.min_def]; split <;> split <;> omega
  rw [← h]
  simp [Builtin.min_, Builtin.min2]
theorem max_run (a b : Int) (w : World) (ts : Array TypeId) (t : TypeId) : (Builtin.max_ ts t #[.int .i64 a, .int .i64 b]).run Tryz.prog w = .ok (.int .i64 (max a b)) w := by
  have h : (if a < b then b else a) = max a b := by rw [Int.max_def]; split <;> split <;> omega
  rw [← h]
  simp [Builtin.max_, Builtin.max2]
def AddRes (w : World) (b : Nat) (x : Nd) (e : Ending) (w' : World) : Prop :=
  (∃ v, e = .returned v) ∧ w'.heap[b]? = some (.cells (nodA x) 81 (0, 0)) ∧ Alters (fun k => k = b) (fun k => k = b) w w'
theorem row_set1 {w : World} {b : Nat} {cs : Array Value} {t : TypeId} (h : w.heap[b]? = some (.cells cs t (0, 0))) (j : Nat) (v : Value) : (w.setCell ⟨b, j, none⟩ v).heap[b]? = some (.cells (cs.setIfInBounds j v) t (0, 0)) :=
  heap_setCell_same _ _ _ _ _ _ h
theorem alt_set1 {F F' : Nat → Prop} {w w' : World} {a : Addr} {v : Value} (h : Alters F F' w w') (hF : F' a.block) : Alters F F' w (w'.setCell a v) := h.trans (alters_set hF)
theorem alt_drew4 {F F' : Nat → Prop} {w w' : World} (h : Alters F F' w w') : Alters F F' w w'.drew.drew.drew.drew := ⟨h.os, h.tape, h.output, h.size, h.block, h.foot⟩
set_option maxHeartbeats 2000000 in
set_option maxRecDepth 100000 in
theorem a_addAgg (w : World) (b : Nat) (x c : Nd) (hb : w.heap[b]? = some (.cells (nodA x) 81 (0, 0))) (h1 : 0 ≤ x.size) (h2 : x.size ≤ 2147483647) (h3 : 0 ≤ c.size) (h4 : c.size ≤ 2147483647) :
    Calls Tryz.prog 115 #[.pointer (some ⟨b, 0, none⟩), .agg (nodA c)] w (AddRes w b (x.add c)) := by
  have hlt := (Array.getElem?_eq_some_iff.1 hb).1
  have hal := below_al w (Obj.cells (nodA c) 81)
  have hq := heap_alloc_new w (Obj.cells (nodA c) 81)
  have hb1 := (hal.block b hlt).trans hb
  have HA1 : Hid (Alters (fun k => k = b) (fun k => k = b) w (w.alloc (Obj.cells (nodA c) 81))) := .of_below hal
  clear hb hal
  go_enter Tryz.func115, Tryz.ntmps115
  unfold nodA
  go_upto_region 1 with fail
  rw [show #[Value.int .i64 c.key, .int .i64 c.val, .int .u32 (c.left : Int), .int .u32 (c.right : Int), .int .i64 c.size, .int .i64 c.sum, .int .i64 c.mn, .int .i64 c.mx] = nodA c from rfl]
  generalize w.alloc (Obj.cells (nodA c) 81) = w1 at hq hb1 HA1 ⊢
  obtain ⟨q, hqq⟩ : ∃ q, w.heap.size = q := ⟨_, rfl⟩
  rw [hqq] at hq hlt ⊢
  have HQQ := Lib.hid hqq
  have n1 : ¬ b = q := by omega
  have n2 : ¬ q = b := by omega
  clear hlt hqq
  have HQ := Lib.hid hq
  have HB := Lib.hid hb1
  unfold nodA at hq hb1
  obtain ⟨q0, q1, q2, q3, q4, q5, q6, q7⟩ := row8n hq
  obtain ⟨b0, b1, b2, b3, b4, b5, b6, b7⟩ := row8n hb1
  have f4 := frozen_of_row w1 b 4 _ _ hb1
  have f5 := frozen_of_row w1 b 5 _ _ hb1
  have f6 := frozen_of_row w1 b 6 _ _ hb1
  have f7 := frozen_of_row w1 b 7 _ _ hb1
  clear hq hb1
  by_cases hz : c.size = 0
  · have HZ := Lib.hid hz
    have hz2 : (c.size == 0) = true := by rw [hz]; rfl
    clear hz
    go_wp2_with fail
    refine bodyPost_ret (results_none rfl _ _ _) rfl ?_
    exact ⟨⟨_, rfl⟩, by unfold Nd.add; rw [if_pos HZ.out]; exact HB.out, HA1.out⟩
  · have HZ := Lib.hid hz
    have hz2 : (c.size == 0) = false := by simpa using hz
    clear hz
    go_upto_region 2 with fail
    go_region
    go_upto_region 3 with fail
    go_region
    have hmin := min_run x.mn c.mn
    have hmax := max_run x.mx c.mx
    go_upto_region 4 with fail
    go_region
    go_upto_region 5 with fail
    go_region
    go_wp2_with fail
    go_end0
    have e : ∀ W : World, W.drew.drew.drew.drew.heap[b]? = W.heap[b]? := fun _ => rfl
    refine ⟨⟨_, rfl⟩, ?_, alt_drew4 (alt_set1 (alt_set1 (alt_set1 (alt_set1 HA1.out rfl) rfl) rfl) rfl)⟩
    rw [e, row_set1 (row_set1 (row_set1 (row_set1 HB.out 4 _) 5 _) 6 _) 7 _]
    unfold Nd.add
    rw [if_neg HZ.out, show IntKind.i64.wrap (x.sum + c.sum) = wrap64 (x.sum + c.sum) from IntWalk.i64_left _]
    rfl
end Go.Proofs.YtfihklpofmcfgaaGreat
namespace Go.Proofs.YtfihklpofmcfgaaGreat
/-- how often each slot is held -/
def hof (l : List Nat) (i : Nat) : Nat := if i = 0 then 0 else l.count i
theorem hof_zero (l : List Nat) : hof (l ++ [0]) = hof l := by
  funext i
  unfold hof
  split
  · rfl
  · rename_i h
    rw [List.count_append]
    have : List.count i [0] = 0 := by rw [List.count_eq_zero]; simp; exact h
    omega
theorem hof_more (l : List Nat) {i : Nat} (hi : i ≠ 0) : hof (l ++ [i]) = more (hof l) i := by
  funext j
  show (if j = 0 then 0 else (l ++ [i]).count j) = (if j = i then (if i = 0 then 0 else l.count i) + 1 else (if j = 0 then 0 else l.count j))
  by_cases h : j = 0
  · subst h; rw [if_pos rfl, if_neg (fun e => hi e.symm), if_pos rfl]
  · rw [if_neg h, List.count_append]
    by_cases e : j = i
    · subst e; rw [if_pos rfl, if_neg h]; simp
    · rw [if_neg e, if_neg h]
      have : List.count j [i] = 0 := by rw [List.count_eq_zero]; simp; exact e
      omega
theorem hof_pos {l : List Nat} {i : Nat} (h : i ∈ l) (h0 : i ≠ 0) : 0 < hof l i := by
  unfold hof
  rw [if_neg h0]
  exact List.count_pos_iff.2 h
theorem edge_le (A : Ar) (k i : Nat) : A.edge k i ≤ 2 := by
  unfold Ar.edge hit
  split
  · split <;> split <;> omega
  · omega
theorem refs_le (A : Ar) (i : Nat) : A.refs i ≤ 2 * A.σ.cap := by
  unfold Ar.refs
  have key : ∀ l : List Nat, (l.map fun k => A.edge k i).sum ≤ 2 * l.length := fun l => by
    induction l with
    | nil => simp
    | cons a t ih => rw [List.map_cons, List.sum_cons, List.length_cons]; have := edge_le A a i; omega
  have := key (List.range' 1 A.σ.cap)
  rwa [List.length_range'] at this
end Go.Proofs.YtfihklpofmcfgaaGreat
