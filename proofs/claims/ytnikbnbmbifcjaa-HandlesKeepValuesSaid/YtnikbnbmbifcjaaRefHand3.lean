/- The reference's Handles of a table of handles. -/
import Derived.Test.YtnikbnbmbifcjaaRefHand2
import Derived.Test.YtnikbnbmbifcjaaHandLaw
set_option linter.unusedVariables false
namespace Go.Proofs.Ytnikbnbmbifcjaa
open Go.RowKit
def St.upto (σ : St) (k : Nat) : List Int := ((List.range' 1 k).filter σ.on).map σ.hd
theorem upto_on {σ : St} {k : Nat} (h : σ.on (k + 1) = true) : σ.upto (k + 1) = σ.upto k ++ [σ.hd (k + 1)] := by
  unfold St.upto
  rw [List.range'_concat, List.filter_append, List.map_append]
  have e : 1 + 1 * k = k + 1 := by omega
  rw [e]
  simp [h]
theorem upto_off {σ : St} {k : Nat} (h : σ.on (k + 1) = false) : σ.upto (k + 1) = σ.upto k := by
  unfold St.upto
  rw [List.range'_concat, List.filter_append, List.map_append]
  have e : 1 + 1 * k = k + 1 := by omega
  rw [e]
  simp [h]
theorem upto_len (σ : St) (k : Nat) : (σ.upto k).length ≤ k := by
  unfold St.upto
  rw [List.length_map]
  exact Nat.le_trans (List.length_filter_le _ _) (by simp)
theorem upto_all (σ : St) : σ.upto σ.cap = σ.hds := rfl
section
variable {B : Nat} {G G' : Nat → Prop} {w w' : World} {σ : St} {u : Nat → Int} {r : RL}
set_option maxHeartbeats 2000000 in
set_option maxRecDepth 100000 in
theorem rt_handles (h : RefTab B G w σ u r) :
    Calls Try.prog 22 #[.agg (refT σ r)] w (THandles w σ) := by
  obtain ⟨i0, ji, jz0, jz1, jz2⟩ := info_parts u64sInfo
  have hcap := h.ok.cap2
  have hci : (σ.cap : Int) ≤ 65536 := by omega
  have HH := Lib.hid h
  obtain ⟨w1, hw1⟩ : ∃ w1, w1 = w.alloc (Obj.cells (refT σ r) 40) := ⟨_, rfl⟩
  have hs1 : w1.heap.size = w.heap.size + 1 := by rw [hw1]; simp
  have hb1 : Below w.heap.size w w1 := by rw [hw1]; exact (Below.refl _ _).alloc (Nat.le_refl _) _
  have hB1 : BoxT w1 w.heap.size σ r := by rw [hw1]; exact BoxT.new w σ r
  have HB1 := Lib.hid hB1
  have HS1 := Lib.hid hs1
  have HW1 := Lib.hid hw1
  clear h hB1 hs1 hw1
  go_enter Try.func22, Try.ntmps22
  go_wp2
  rw [← HW1.out]
  clear HW1
  go_loopw [3, 4] (fun x i wr => ∃ k : Nat, k ≤ σ.cap ∧ i = .int .u32 ((k : Int) + 1) ∧ wr.ownsRow (w.heap.size + 1) 29 1 x (σ.upto k).length (u64s (σ.upto k)) ∧ Below (w.heap.size + 1) w1 wr) (fun _ i _ => σ.cap + 1 - (intOf i).toNat)
  case atStart => exact ⟨0, Nat.zero_le _, rfl, World.ownsRow_nil _ _ _ _, Below.refl _ _⟩
  case round =>
    obtain ⟨k, hk, rfl, ho, hb⟩ := hrel
    have hbw : Below w1.heap.size w1 wr := by rw [HS1.out]; exact hb
    have hsz : w.heap.size + 1 ≤ wr.heap.size := by rw [← HS1.out]; exact hb.size
    have hB := HB1.out.below hbw
    have HBX := Lib.hid hB
    obtain ⟨hc0, hc1, hc2, hc3, hc4, hc5⟩ := hB.cells
    have hbb : Below w.heap.size w wr := hb1.trans (hb.mono (by omega))
    have hT := HH.out.below hbb
    have HT := Lib.hid hT
    have hlen := upto_len σ k
    by_cases hlt : k < σ.cap
    · have hki : (k : Int) + 1 ≤ (σ.cap : Int) := by omega
      have hki2 : (k : Int) < 65536 := by omega
      have hki0 : (0 : Int) ≤ (k : Int) := by omega
      clear hbb hT hbw hB
      go_wp2_with fail
      refine (ref_on HT.out.slots HT.out.ok (k + 1) (by omega)).mono ?_
      rintro e w2 ⟨rfl, hb2⟩
      have hB2 := HBX.out.below hb2
      have HB2 := Lib.hid hB2
      have hT2 := HT.out.below hb2
      have HT2 := Lib.hid hT2
      have ho2 := row_below ho hb2
      have hbn := hb.trans (hb2.mono hsz)
      clear hc0 hc1 hc2 hc3 hc4 hc5 ho hb hT2
      obtain ⟨hc0, hc1, hc2, hc3, hc4, hc5⟩ := hB2.cells
      have hsz2 : w.heap.size + 1 ≤ w2.heap.size := Nat.le_trans hsz hb2.size
      clear hB2 hb2
      by_cases hon : σ.on (k + 1) = true
      · have hup := upto_on hon
        have HUP := Lib.hid hup
        rw [hon]
        clear hup hon
        go_wp2_with fail
        refine (ref_gen HT2.out.slots HT2.out.ok (k + 1) (by omega)).mono ?_
        rintro e w3 ⟨rfl, hb3⟩
        have hg := HT2.out.ok.gen (k + 1)
        have ho3 := row_below ho2 hb3
        have hbn3 := hbn.trans (hb3.mono hsz2)
        have hsz3 : w.heap.size + 1 ≤ w3.heap.size := Nat.le_trans hsz2 hb3.size
        clear hc0 hc1 hc2 hc3 hc4 hc5 ho2 hbn hb3
        go_wp2_with fail
        refine (refpack_any ((k : Int) + 1) (σ.gen (k + 1)) _ (by omega) (by omega) hg.1 hg.2).mono ?_
        rintro e w4 ⟨rfl, rfl⟩
        have hhd : σ.gen (k + 1) * 4294967296 + ((k : Int) + 1) = σ.hd (k + 1) := by unfold St.hd; omega
        rw [hhd]
        generalize σ.hd (k + 1) = Y at HUP ⊢
        have hal := (Below.refl w3.heap.size w3).alloc (Nat.le_refl _) (Obj.cells #[Value.int .u64 Y] 29)
        have ho4 := row_below ho3 hal
        have hbn4 := hbn3.trans (hal.mono hsz3)
        have hsz4 : w.heap.size + 1 ≤ (w3.alloc (Obj.cells #[Value.int .u64 Y] 29)).heap.size := by simp; omega
        generalize σ.upto k = L at HUP hlen ho4
        clear ho3 hbn3 hal hhd hg
        go_wp2_with (at_builtin; refine wpList_append_own _ rfl (.tmp 17) (.tmp 24) 42 rfl (w.heap.size + 1) 29 i0 (.int .u64 0) 1 8 Try.underlying42 ji jz0 jz1 jz2 rfl (by decide) _ L.length (u64s L) rfl ho4 ⟨w3.heap.size, 0, none⟩ 1 1 [.int .u64 Y] rfl rfl (cell_new1 _ _ _) (one_cell1 _ _) (by unfold maxLen; omega) (by omega) hsz4 ?_; intro v2 w5 ho5 hg5 _)
        have hb5 : Below (w.heap.size + 1) w1 w5 := hbn4.grown hg5 hsz4 (row_from ho4)
        refine ⟨⟨k + 1, by omega, by go_num, ?_, hb5⟩, by simp [intOf]; omega⟩
        rw [HUP.out, u64s_snoc, List.length_append]
        exact ho5
      · have hon' : σ.on (k + 1) = false := by simpa using hon
        have hup := upto_off hon'
        have HUP := Lib.hid hup
        rw [hon']
        clear hup hon hon'
        go_wp2
        refine ⟨⟨k + 1, by omega, by go_num, ?_, hbn⟩, by simp [intOf]; omega⟩
        rw [HUP.out]
        exact ho2
    · obtain rfl : k = σ.cap := by omega
      rw [upto_all] at ho
      obtain ⟨va, vc, rfl⟩ := row_val ho
      have hki : (σ.cap : Int) < (σ.cap : Int) + 1 := by omega
      clear hc1 hc2 hc3 hc4 hc5
      go_wp2
      go_ret
      exact ⟨va, vc, rfl, row_mono ho (by omega), hbb⟩
end
end Go.Proofs.Ytnikbnbmbifcjaa
