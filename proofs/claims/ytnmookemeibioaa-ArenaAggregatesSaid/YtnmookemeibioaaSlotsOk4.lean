/- The program's allocator: Alloc. -/
import Derived.Test.YtnmookemeibioaaSlotsOk3
set_option linter.unusedVariables false
namespace Go.Proofs.Ytnmookemeibioaa
open Go.RowKit
section
variable {w w' : World} {pb : Nat} {σ : St} {st : List Nat} {us : Nat} {sa ra : Option Addr} {sc rc : Nat} {F F1 F2 : Nat → Prop}
set_option maxHeartbeats 1000000 in
set_option maxRecDepth 100000 in
theorem s_alloc_full (h : Lie w pb σ st us sa ra sc rc) (hf : σ.free = []) :
    Calls Try.prog 57 #[.pointer (some ⟨pb, 0, none⟩)] w (fun e w' => e = .returned (.tuple #[.int .u32 0, .int .i64 2]) ∧ ∃ q, w' = w.drewN q) := by
  go_enter Try.func57, Try.ntmps57
  go_wp2_with fail
  refine (s_free h).mono ?_
  rintro e w1 ⟨rfl, q, rfl⟩
  rw [hf, List.length_nil]
  go_wp2
  go_ret2
  exact ⟨rfl, _, rfl⟩
set_option maxHeartbeats 1000000 in
set_option maxRecDepth 100000 in
theorem s_take_new (h : Lie w pb σ [] us sa ra sc rc) (hu : us < σ.cap) :
    Calls Try.prog 67 #[.pointer (some ⟨pb, 0, none⟩)] w (fun e w' => e = .returned (.int .u32 ((us + 1 : Nat) : Int)) ∧ w' = w.setCell ⟨pb, 2, none⟩ (.int .i64 ((us : Int) + 1))) := by
  obtain ⟨hc0, hc1, hc2⟩ := h.cells
  have hf2 := frozen_of_row w pb 2 _ _ h.box
  obtain ⟨hd0, hd1, hd2⟩ := (h.raw.setU (.int .i64 ((us : Int) + 1))).cells
  have hcap := h.ok.cap2
  have hui : (us : Int) < 65536 := by omega
  have hwr : IntKind.u32.wrap ((us : Int) + 1) = (us : Int) + 1 := by rw [IntKind.wrap_u32']; omega
  clear h
  go_enter Try.func67, Try.ntmps67
  go_wp2
  go_ret
  exact ⟨rfl, rfl⟩
set_option maxHeartbeats 1000000 in
set_option maxRecDepth 100000 in
theorem s_take_pop {s0 : List Nat} {X : Nat} (h : Lie w pb σ (s0 ++ [X]) us sa ra sc rc) :
    Calls Try.prog 67 #[.pointer (some ⟨pb, 0, none⟩)] w (fun e w' => e = .returned (.int .u32 (X : Int)) ∧ w' = w.setCell ⟨pb, 1, none⟩ (.slice ra s0.length rc)) := by
  have hl : (s0 ++ [X]).length = s0.length + 1 := by simp
  have hst := h.stlen.2
  rw [hl] at hst
  have hsi : (s0.length : Int) ≤ 65535 := by omega
  obtain ⟨gs, rfl⟩ := row_head h.stack (by omega)
  obtain ⟨hc0, hc1, hc2⟩ := h.cells
  rw [hl] at hc1
  have hcs : w.cell? ⟨gs, s0.length, none⟩ = some (.int .u32 (X : Int)) := by
    rw [h.stack.cellAt s0.length (by omega), u32s_get (by omega)]; simp
  have hsc := row_cap h.stack
  rw [hl] at hsc
  have hsc2 : (s0.length : Int) ≤ (rc : Int) := by omega
  have hf2 := frozen_of_row w pb 1 _ _ h.box
  clear h hl hst hsc
  go_enter Try.func67, Try.ntmps67
  go_wp2
  go_ret
  exact ⟨rfl, rfl⟩
/-- what the rest of Alloc needs, the slot being taken from the free ones -/
def Taken (w w' : World) (pb : Nat) (σ : St) (st : List Nat) (us : Nat) (sa ra : Option Addr) (sc rc : Nat) : Prop :=
  Raw w' pb σ.cap (sts σ) st (.int .i64 (us : Int)) sa ra sc rc ∧ Alters (Foot pb sa ra) (Foot pb sa ra) w w'
def STake (w : World) (pb : Nat) (σ : St) (sa ra : Option Addr) (sc rc i : Nat) (t : List Nat) (e : Ending) (w' : World) : Prop :=
  e = .returned (.tuple #[.int .u32 (i : Int), .int .i64 0]) ∧ ∃ (st : List Nat) (us : Nat), Lie w' pb (σ.take i t) st us sa ra sc rc ∧ Alters (Foot pb sa ra) (Foot pb sa ra) w w'
set_option maxHeartbeats 2000000 in
set_option maxRecDepth 100000 in
theorem s_alloc_by (h : Lie w pb σ st us sa ra sc rc) (j : Nat) (t : List Nat) (hf : σ.free = (j + 1) :: t) (st' : List Nat) (us' : Nat) (ht : t = st'.reverse ++ List.range' (us' + 1) (σ.cap - us')) (hu' : us' ≤ σ.cap)
    (HT : ∀ q, Calls Try.prog 67 #[.pointer (some ⟨pb, 0, none⟩)] (w.drewN q) fun e w' => e = .returned (.int .u32 ((j + 1 : Nat) : Int)) ∧ Taken w w' pb σ st' us' sa ra sc rc) :
    Calls Try.prog 57 #[.pointer (some ⟨pb, 0, none⟩)] w (STake w pb σ sa ra sc rc (j + 1) t) := by
  have hjm := (h.ok.free (j + 1)).1 (by rw [hf]; simp)
  have hcap := h.ok.cap2
  have hji : (j : Int) < (σ.cap : Int) := by omega
  have hj0 : (0 : Int) ≤ (j : Int) := by omega
  have hci : (σ.cap : Int) ≤ 65536 := by omega
  have hN : Hid (0 < σ.free.length) := by show 0 < σ.free.length; rw [hf]; simp
  have HF := Lib.hid hf
  have HTT := Lib.hid ht
  have HLIE := Lib.hid h
  obtain ⟨go, rfl⟩ := row_head2 h.states (by omega)
  have hgj := h.ok.gen (j + 1)
  clear hf ht h
  go_enter Try.func57, Try.ntmps57
  go_wp2_with fail
  refine (s_free HLIE.out).mono ?_
  rintro e w1 ⟨rfl, q, rfl⟩
  have hN2 := hN.out
  generalize σ.free.length = N at hN2 ⊢
  have hN3 : ¬ (N : Int) = 0 := by omega
  go_wp2_with fail
  refine (HT q).mono ?_
  rintro e w2 ⟨rfl, hR, hA⟩
  obtain ⟨hc0, hc1, hc2⟩ := hR.cells
  have hfo := hR.states.frozenAt (j * 2)
  have hco := (hR.states.cellAt (j * 2) (by omega)).trans (sts_at0 σ j (by omega))
  have hR2 := hR.setSt (j * 2) (.bool true)
  have hfg := hR2.states.frozenAt (j * 2 + 1)
  have hcg : (w2.setCell ⟨go, j * 2, none⟩ (.bool true)).cell? ⟨go, j * 2 + 1, none⟩ = some (.int .u32 (σ.gen (j + 1))) := by
    rw [hR2.states.cellAt (j * 2 + 1) (by omega), List.getElem?_set_ne (by omega)]
    exact sts_at1 σ j (by omega)
  have hR3 := hR2.setSt (j * 2 + 1) (.int .u32 ((σ.gen (j + 1) + 1) % 4294967296))
  have HR3 := Lib.hid hR3
  have HA := Lib.hid hA
  generalize hG : σ.gen (j + 1) = G at hcg hgj
  have HG := Lib.hid hG
  have hgw : IntKind.u32.wrap (G + 1) = (G + 1) % 4294967296 := IntKind.wrap_u32' _
  clear hR hR2 hR3 hA hG
  go_wp2
  go_ret2
  obtain rfl := HG.out
  have hp := HR3.out
  rw [← sts_take σ j t] at hp
  have hok := St.take_ok HLIE.out.ok HF.out
  refine ⟨rfl, st', us', Raw.lie (σ := σ.take (j + 1) t) hp hok HTT.out hu', ?_⟩
  exact HA.out.trans ((alters_set (a := ⟨go, j * 2, none⟩) (.inr (.inl ⟨_, rfl, rfl⟩))).trans (alters_set (a := ⟨go, j * 2 + 1, none⟩) (.inr (.inl ⟨_, rfl, rfl⟩))))
theorem s_alloc_new (h : Lie w pb σ [] us sa ra sc rc) (i : Nat) (t : List Nat) (hf : σ.free = i :: t) :
    Calls Try.prog 57 #[.pointer (some ⟨pb, 0, none⟩)] w (STake w pb σ sa ra sc rc i t) := by
  have hfr : us < σ.cap ∧ i = us + 1 ∧ t = List.range' (us + 1 + 1) (σ.cap - (us + 1)) := by
    have h1 := h.free
    rw [hf, List.reverse_nil, List.nil_append] at h1
    rcases Nat.lt_or_ge us σ.cap with h2 | h2
    · rw [show σ.cap - us = (σ.cap - (us + 1)) + 1 by omega, List.range'_succ] at h1
      simp only [List.cons.injEq] at h1
      exact ⟨h2, h1.1, h1.2⟩
    · rw [show σ.cap - us = 0 by omega] at h1; simp at h1
  obtain ⟨hu, rfl, ht⟩ := hfr
  refine s_alloc_by h us t hf [] (us + 1) (by simpa using ht) (by omega) fun q => ?_
  have hq := h.below (below_drewN (Below.refl _ _) q)
  refine (s_take_new hq hu).mono ?_
  rintro e w1 ⟨rfl, rfl⟩
  exact ⟨rfl, hq.raw.setU _, alters_drewN.trans (alters_set (a := ⟨pb, 2, none⟩) (.inl rfl))⟩
theorem s_alloc_pop {s0 : List Nat} {X : Nat} (h : Lie w pb σ (s0 ++ [X]) us sa ra sc rc) (i : Nat) (t : List Nat) (hf : σ.free = i :: t) :
    Calls Try.prog 57 #[.pointer (some ⟨pb, 0, none⟩)] w (STake w pb σ sa ra sc rc i t) := by
  have hX : i = X ∧ t = s0.reverse ++ List.range' (us + 1) (σ.cap - us) := by
    have h1 := h.free
    rw [hf] at h1
    simpa using h1
  obtain ⟨rfl, ht⟩ := hX
  have him := (h.ok.free i).1 (by rw [hf]; simp)
  obtain ⟨j, rfl⟩ : ∃ j, i = j + 1 := ⟨i - 1, by omega⟩
  refine s_alloc_by h j t hf s0 us ht h.us1 fun q => ?_
  have hq := h.below (below_drewN (Below.refl _ _) q)
  refine (s_take_pop hq).mono ?_
  rintro e w1 ⟨rfl, rfl⟩
  exact ⟨rfl, hq.raw.pop, alters_drewN.trans (alters_set (a := ⟨pb, 1, none⟩) (.inl rfl))⟩
end
end Go.Proofs.Ytnmookemeibioaa
