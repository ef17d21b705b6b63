/- The walk of ArenaNothingLeaks. Condition: the program's functions and the reference's Check keep their contracts. -/
import Derived.Test.YtnmookemeibioaaLawArenaCons
set_option linter.unusedVariables false
namespace Go.Proofs.Ytnmookemeibioaa
open Go.RowKit
section
variable {I : AImpl} {B q : Nat} {w w' w0 : World} {p x : Value} {A A' : Ar} {rd rd' : Int} {held held' : Nat → Nat} {l : List Nat}
theorem tc_free (h : TC I B w0 w q p x A rd held l) : Calls Try.prog 13 #[p] w (ARc I B w0 q p x A rd held l (.int .i64 (A.σ.free.length : Int))) := by
  obtain ⟨F, h2, _⟩ := h.has
  exact (I.freeN p A rd F w h2).mono fun e w1 ⟨h3, d, h4⟩ => ⟨h3, by subst h4; exact h.calm (below_drewN (Below.refl _ _) _)⟩
def GoneRes (I : AImpl) (B : Nat) (w0 : World) (q : Nat) (p x : Value) (A : Ar) (rd : Int) (held : Nat → Nat) (l : List Nat) (i : Nat) (e : Ending) (w' : World) : Prop :=
  ∃ A' : Ar, ∃ m : Nat, A'.σ.cap = A.σ.cap ∧ A'.σ.free.length = A.σ.free.length + m ∧ ARc I B w0 q p x A' rd (if i = 0 then held else less held i) l (.tuple #[.int .i64 (m : Int), .int .i64 0]) e w'
theorem tc_release_gen (h : TC I B w0 w q p x A rd held l) {i : Nat} (hi : i ≠ 0 → 0 < held i) :
    Calls Try.prog 25 #[p, .int .u32 (i : Int)] w (GoneRes I B w0 q p x A rd held l i) := by
  obtain ⟨F, h1, h2, h3, h4⟩ := h.has
  by_cases h0 : i = 0
  · subst h0
    refine (I.release p A rd F 0 held w h1 (by decide) (fun _ => h.inv.give0)).mono ?_
    rintro e w1 ⟨F', hal, _, h5⟩
    obtain ⟨rfl, h6⟩ := h5 (.inl rfl)
    rw [(gone_zero A).1] at h6
    refine ⟨A, 0, rfl, rfl, ?_, by rw [if_pos rfl]; exact h.step h2 h3 h4 hal h6 h.inv h.agg⟩
    rw [(gone_zero A).2]
  · have hon := h.inv.held i (hi h0)
    have hi4 : i < 4294967296 := by have := h.inv.ok.on i hon; have := h.inv.ok.cap2; omega
    have hg := h.inv.give (hi h0)
    have hgo := Ar.gone_ok hg h.agg
    refine (I.release p A rd F i (less held i) w h1 hi4 (fun _ => hg)).mono ?_
    rintro e w1 ⟨F', hal, _, h5⟩
    obtain ⟨rfl, h6⟩ := h5 (.inr hon)
    exact ⟨A.gone i, A.freed i, hgo.2.2.1, hgo.2.2.2, rfl, by rw [if_neg h0]; exact h.step h2 h3 h4 hal h6 hgo.1 hgo.2.1⟩
theorem tc_sound0 (hchk : CheckSpec) (h : TC I B w0 w q p x A rd (hof []) l) :
    Calls Try.prog 38 #[p, .slice none 0 0] w (Calm w (.bool true)) := by
  obtain ⟨F, h1, _⟩ := h.has
  exact sound_any hchk I (l := []) h1 h.inv h.agg ⟨fun j hj => by simp at hj, fun y hy => by simp at hy⟩ (by simp) (fun y hy => by simp at hy)
end
theorem take_one_less {l : List Nat} {j : Nat} (hj : j < l.length) : (l.take (j + 1)).take j ++ (l.take (j + 1)).drop (j + 1) = l.take j := by
  rw [List.take_take, List.drop_eq_nil_of_le (by simp; omega), List.append_nil, Nat.min_eq_left (by omega)]
theorem take_last {l : List Nat} {j : Nat} (hj : j < l.length) : (l.take (j + 1)).getD j 0 = l.getD j 0 := by
  rw [List.getD_eq_getElem?_getD, List.getD_eq_getElem?_getD, List.getElem?_take, if_pos (by omega)]
theorem hof_pop {l : List Nat} {j : Nat} (hj : j < l.length) : (if l.getD j 0 = 0 then hof (l.take (j + 1)) else less (hof (l.take (j + 1))) (l.getD j 0)) = hof (l.take j) := by
  have hlen : j < (l.take (j + 1)).length := by simp; omega
  by_cases h0 : l.getD j 0 = 0
  · rw [if_pos h0, ← take_one_less hj, hof_erase0 hlen (by rw [take_last hj]; exact h0)]
  · rw [if_neg h0, ← hof_erase hlen (take_last hj) h0, take_one_less hj]
theorem hof_last {l : List Nat} {j : Nat} (hj : j < l.length) (h0 : l.getD j 0 ≠ 0) : 0 < hof (l.take (j + 1)) (l.getD j 0) := by
  refine hof_pos ?_ h0
  rw [← take_last hj]
  exact getD_in (by simp; omega)
set_option maxHeartbeats 4000000 in
set_option maxRecDepth 100000 in
theorem leaks_walk (hchk : CheckSpec) (I : AImpl) (c : Int) (a : Option Addr) (m cap : Nat) (w : World) (hv1 : -9223372036854775808 ≤ c) (hv2 : c ≤ 9223372036854775807) (hl : StepsIn w a m) (hc : m ≤ cap) (hm : cap ≤ maxLen) :
    Calls Try.prog 6 #[.int .i64 c, .slice a m cap] w fun e w' => e = .returned (.bool true) ∧ Below w.heap.size w w' := by
  have hr := Int.emod_nonneg c (b := 30) (by omega)
  have hr2 := Int.emod_lt_of_pos c (b := 30) (by omega)
  obtain ⟨r, hr3⟩ := Int.eq_ofNat_of_zero_le hr
  rw [hr3] at hr2
  have hr4 : r < 30 := by omega
  have HR := Lib.hid hr3
  obtain ⟨n, hn⟩ : ∃ n : Nat, n = r + 1 := ⟨_, rfl⟩
  have HN : Hid ((1 : Int) + (r : Int) = (n : Int)) := by show (1 : Int) + (r : Int) = (n : Int); omega
  have hn1 : 1 ≤ n := by omega
  have hn2 : n ≤ 30 := by omega
  have hni : (n : Int) ≤ 30 := by omega
  have HLI := Lib.hid hl
  clear hr hr2 hr3 hn hl
  go_enter Try.func6, Try.ntmps6
  go_wp2_with fail
  refine (mod_any c 30 _ hv1 hv2 (by decide) (by decide)).mono ?_
  rintro e w2 ⟨rfl, rfl⟩
  rw [HR.out]
  go_wp2_with fail
  rw [HN.out]
  refine (play_any I a n m cap _ HLI.out hc hm hn1 hn2).mono ?_
  rintro e w1 ⟨q, pa, A, xa, xc, l, rfl, hcap, hl80, hT⟩
  have HCAP := Lib.hid hcap
  have HL80 := Lib.hid hl80
  clear hcap hl80
  go_wp2_with fail
  refine (awake_any I _).mono ?_
  rintro e w2 ⟨rfl, hb2⟩
  have hT2 := hT.calm hb2
  obtain ⟨hc0, hc1⟩ := hT2.cells
  have HT2 := Lib.hid hT2
  clear hT hT2 hb2
  go_wp2_with fail
  refine (tc_free HT2.out).mono ?_
  rintro e w3 ⟨rfl, hT3⟩
  obtain ⟨L, hL⟩ : ∃ L, l.length = L := ⟨_, rfl⟩
  have HL := Lib.hid hL
  obtain ⟨f0, hf0⟩ : ∃ f0, A.σ.free.length = f0 := ⟨_, rfl⟩
  have HF0 := Lib.hid hf0
  have hfn : f0 ≤ n := by have := hT3.inv.ok.len; rw [hf0, HCAP.out] at this; exact this
  have hfi : (f0 : Int) ≤ (n : Int) := by omega
  clear hc0 hc1
  obtain ⟨hc0, hc1⟩ := hT3.cells
  rw [hL] at hc1
  rw [hf0]
  have hli : (L : Int) ≤ 80 := by have := HL80.out; omega
  have HT3 : Hid (TC I w.heap.size w w3 q (.pointer (some pa)) (.slice xa l.length xc) A 0 (hof (l.take L)) l) := by rw [← hL, List.take_length]; exact hT3
  clear hL hf0 hT3
  go_wp2_with fail
  clear hc0 hc1
  go_loopw [9, 10] (fun s i wr => ∃ (j : Nat) (A' : Ar) (fr : Nat), j ≤ L ∧ i = .int .i64 ((j : Int) - 1) ∧ s = .int .i64 (fr : Int) ∧ A'.σ.cap = n ∧ A'.σ.free.length = f0 + fr ∧ TC I w.heap.size w wr q (.pointer (some pa)) (.slice xa l.length xc) A' 0 (hof (l.take j)) l) (fun _ i _ => (intOf i + 1).toNat)
  case atStart => exact ⟨L, A, 0, Nat.le_refl _, rfl, rfl, HCAP.out, HF0.out, HT3.out⟩
  case round =>
    clear HT3
    obtain ⟨j, A', fr, hj, rfl, rfl, hcap', hfr, hT⟩ := hrel
    have hfr30 : fr ≤ 30 := by have := hT.inv.ok.len; omega
    have hfri : (fr : Int) ≤ 30 := by omega
    have HT := Lib.hid hT
    have HC' := Lib.hid hcap'
    have HFR := Lib.hid hfr
    obtain ⟨hc0, hc1⟩ := hT.cells
    rw [HL.out] at hc1
    clear hT hcap' hfr hfr30
    by_cases h0 : j = 0
    · have hj1 : ¬ ((0 : Int) ≤ (j : Int) - 1) := by omega
      have hT0 : TC I w.heap.size w wr q (.pointer (some pa)) (.slice xa l.length xc) A' 0 (hof []) l := by have := HT.out; rw [h0] at this; exact this
      have hall : A'.σ.free.length = n := by
        rw [← HC'.out]
        refine all_free hT0.inv.ok (none_held ?_ hT0.agg)
        have := hT0.inv
        rwa [show hof [] = fun _ => 0 by funext i; simp [hof]] at this
      have hfe : ((fr : Int) == (n : Int) - (f0 : Int)) = true := by have := HFR.out; simp; omega
      have HALL := Lib.hid hall
      have HT0 := Lib.hid hT0
      clear hT0 hall
      go_wp2_with fail
      refine (tc_free HT0.out).mono ?_
      rintro e w4 ⟨rfl, hT4⟩
      rw [HALL.out]
      clear hc0 hc1
      obtain ⟨hc0, hc1⟩ := hT4.cells
      rw [HL.out] at hc1
      have HT4 := Lib.hid hT4
      have hnn : ((n : Int) == (n : Int)) = true := by simp
      clear hT4
      go_wp2_with fail
      refine (tc_sound0 hchk HT4.out).mono ?_
      rintro e w5 ⟨rfl, hb5⟩
      have hbb := HT4.out.below.trans (hb5.mono HT4.out.hB)
      have HBB := Lib.hid hbb
      clear hb5 hbb hc0 hc1
      go_wp2_with fail
      go_ret
      exact ⟨rfl, HBB.out⟩
    · obtain ⟨k, rfl⟩ : ∃ k, j = k + 1 := ⟨j - 1, by omega⟩
      have hk1 : ((k + 1 : Nat) : Int) - 1 = (k : Int) := by omega
      rw [hk1]
      have hkl : k < l.length := by rw [HL.out]; omega
      have hki : (k : Int) < (L : Int) := by omega
      have hk0 : (0 : Int) ≤ (k : Int) := by omega
      obtain ⟨g, rfl, hg, hcc⟩ := row_cell HT.out.row hkl
      have hck := hcc.trans (held_get hkl)
      have hgc : Hid (∀ wx q' pp' A'' rd' hd', TC I w.heap.size w wx q' pp' (.slice (some ⟨g, 0, none⟩) l.length xc) A'' rd' hd' l → wx.cell? ⟨g, k, none⟩ = some (.int .u32 ((l.getD k 0 : Nat) : Int))) := fun wx q' pp' A'' rd' hd' hx => (hx.row.cellAt k (by rw [HL.out]; omega)).trans (held_get hkl)
      have HKL := Lib.hid hkl
      clear hcc hg hkl hk1 h0
      go_upto_region 9 with fail
      go_region_held3 (fun w' => w'.cell? ⟨q, 0, none⟩ = some (.pointer (some pa)) ∧ w'.cell? ⟨q, 1, none⟩ = some (.slice (some ⟨g, 0, none⟩) L xc) ∧ w'.cell? ⟨g, k, none⟩ = some (.int .u32 ((l.getD k 0 : Nat) : Int))) (go_keep) ((go_at_call 25; refine (tc_release_gen (HT.out.calm (Below.refl _ _).drew) (hof_last HKL.out)).mono ?_; rintro e w4 ⟨A'', m', hcap'', hfl', rfl, hT4⟩; obtain ⟨hd0, hd1⟩ := hT4.cells; rw [HL.out] at hd1; have hd2 := hgc.out _ _ _ _ _ _ hT4))
      rw [hof_pop HKL.out] at hT4
      have hm30 : fr + m' ≤ 30 := by have := hT4.inv.ok.len; have := HC'.out; have := HFR.out; omega
      have hmi : (fr : Int) + (m' : Int) ≤ 30 := by omega
      have HT4 := Lib.hid hT4
      have HF4 := Lib.hid hfl'
      have HC4 := Lib.hid hcap''
      clear hT4 hfl' hcap'' hc0 hc1 hd0 hd1 hd2 hck hm30
      go_wp2_with fail
      exact ⟨⟨k, A'', fr + m', by omega, by go_num, by go_num, by rw [HC4.out]; exact HC'.out, by rw [HF4.out, HFR.out]; omega, HT4.out⟩, by simp [intOf]⟩
end Go.Proofs.Ytnmookemeibioaa
