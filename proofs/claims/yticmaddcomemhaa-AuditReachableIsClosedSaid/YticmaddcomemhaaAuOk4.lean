/- The program's audit: checkSlot. -/
import Derived.Test.YticmaddcomemhaaAuOk3
set_option linter.unusedVariables false
namespace Go.Proofs.Yticmaddcomemhaa
open Go.RowKit
section
variable {Z q n c m d gL gE gM : Nat} {w0 wr w w' : World} {a b : Option Addr} {l : List Fd} {v : Value} {S : Nat → Sl} {fr rs : List Nat} {R : Nat → Bool}
theorem F1_flip (S : Nat → Sl) (fr : List Nat) (k : Nat) : opt (wantFree S k != ((fr.count (k + 1) : Nat) : Int)) ⟨1, k + 1, wantFree S k, ((fr.count (k + 1) : Nat) : Int)⟩ = F1 S fr k := by
  unfold F1
  congr 1
  rw [Bool.eq_iff_iff]
  simp
  exact ⟨fun h e => h e.symm, fun h e => h e.symm⟩
/-- what is read of the checker at slot k + 1 -/
theorem CkX.at_ (hX : CkX Z q w0 a b n gL gE gM S fr rs R) {wx : World} (ho : Off q Z w0 wx) {k : Nat} (hk : k < n) :
    wx.cell? ⟨gL, k, none⟩ = some (.int .i64 ((fr.count (k + 1) : Nat) : Int)) ∧ wx.cell? ⟨gE, k, none⟩ = some (.int .i64 ((eg S n (k + 1) + rs.count (k + 1) : Nat) : Int)) ∧ wx.cell? ⟨gM, k, none⟩ = some (.bool (R k)) :=
  ⟨((hX.li wx ho).cellAt k (by omega)).trans (natR_at _ hk), ((hX.he wx ho).cellAt k (by omega)).trans (natR_at _ hk), ((hX.ma wx ho).cellAt k (by omega)).trans (boolR_at R hk)⟩
set_option maxHeartbeats 4000000 in
set_option maxRecDepth 100000 in
theorem checkSlot_any (k : Nat) (hX : CkX Z q w0 a b n gL gE gM S fr rs R) (h : CkS Z q w0 a b n c m d gL gE gM l v w) (hl : l.length ≤ 9000000) (hn : n ≤ 65536) (hk : k < n) :
    Calls Try.prog 26 #[.pointer (some ⟨q, 0, none⟩), .int .u32 ((k : Int) + 1)] w (CkRes Z q w0 a b n c m d gL gE gM (l ++ chk1 S n fr rs R k) w) := by
  have hkn : (k : Int) < (n : Int) := by omega
  have hk1 : (k : Int) + 1 ≤ 65536 := by omega
  have hni : (n : Int) ≤ 65536 := by omega
  have hk0 : (0 : Int) ≤ (k : Int) := by omega
  obtain ⟨hc0, hc1, _⟩ := h.cells
  obtain ⟨b', off, rfl, hlb, d0, d1, d2, d3, d4, d5, d6, d7, d8, d9, d10⟩ := (hX.sl _ h.off).all hk
  have hb1 := below_new w (Obj.cells (slV (S k)).toArray 46)
  have h1 := h.from hb1
  have hs1 := heap_alloc_new w (Obj.cells (slV (S k)).toArray 46)
  have HB : Hid (OthC w (w.alloc (Obj.cells (slV (S k)).toArray 46))) := OthC.of_below hb1
  have HS1 := Lib.hid hs1
  have H1 := Lib.hid h1
  have HX := Lib.hid hX
  have HK : Hid (k < n) := hk
  have HN : Hid (n ≤ 65536) := hn
  clear h h1 hs1 hX hb1 hn hk
  unfold slV at HB HS1 H1
  go_enter Try.func26, Try.ntmps26
  go_upto_region 1 with fail
  clear d0 d1 d2 d3 d4 d5 d6 d7 d8 d9 d10 hc0 hc1
  generalize w.alloc _ = w1 at HB HS1 H1 ⊢
  generalize w.heap.size = sb at HS1 ⊢
  have HE : Hid (chk1 S n fr rs R k = F1 S fr k ++ ((if (S k).on = true then kidsF S n k 2 ++ F3 S n k else []) ++ (F4 S n rs k ++ F5 S R k))) := rfl
  have HF1 := Lib.hid (F1_flip S fr k)
  have hln := mid_le S n k
  have hl1 : (F1 S fr k).length ≤ 1 := opt_le _ _
  have hl4 : (F4 S n rs k).length ≤ 1 := opt_le _ _
  have hlen : ∀ x : List Fd, x.length ≤ 3 → (l ++ F1 S fr k ++ x).length ≤ 9000004 ∧ (l ++ F1 S fr k ++ x ++ F4 S n rs k).length ≤ 9000005 := fun x hx => by
    simp only [List.length_append]; omega
  have HLEN := Lib.hid hlen
  have hlen1 : (l ++ F1 S fr k).length ≤ 9000001 := by rw [List.length_append]; omega
  have HLEN1 := Lib.hid hlen1
  have HLN := Lib.hid hln
  have HL := Lib.hid hl
  clear hln hl1 hl4 hlen hlen1 hl
  cases ho : (S k).on
  · have hw : wantFree S k = 1 := by unfold wantFree; rw [if_neg (by simp [ho])]
    have hwc : wantCount S n rs k = 0 := by unfold wantCount; rw [if_neg (by simp [ho])]
    have hf5 : F5 S R k = [] := opt_no (by rw [ho]; rfl)
    have HWC := Lib.hid hwc
    have HW := Lib.hid hw
    have HF5 := Lib.hid hf5
    have e0 := (sl_cells HS1.out).1
    rw [ho] at e0
    have HO := Lib.hid ho
    obtain ⟨p0, _, _⟩ := HX.out.at_ H1.out.off HK.out
    obtain ⟨_, _, c2, _⟩ := H1.out.cells
    clear hw hwc hf5 ho
    go_wp2_with fail
    refine (cmpf_at ⟨1, k + 1, 1, ((fr.count (k + 1) : Nat) : Int)⟩ (succ_cast k) H1.out (by have := HL.out; omega)).mono ?_
    rintro e w2 ⟨rfl, h3, v3, h4⟩
    have h4 : CkS Z q w0 (some ⟨b', off, none⟩) b n c m d gL gE gM (l ++ F1 S fr k) v3 w2 := by rw [← HF1.out, HW.out]; exact h4
    have hs3 := h3 _ _ _ HS1.out (by decide) (by decide)
    clear e0 p0 c2
    obtain ⟨e0, e1, _⟩ := sl_cells hs3
    rw [HO.out] at e0
    have HS3 := Lib.hid hs3
    have H3 := Lib.hid h3
    have H4 := Lib.hid h4
    clear h3 h4 hs3
    go_wp2_with fail
    refine (cmpf_at ⟨4, k + 1, 0, (S k).cnt⟩ (succ_cast k) H4.out (by have := HLEN1.out; omega)).mono ?_
    rintro e w4 ⟨rfl, h5, v5, h6⟩
    have hs5 := h5 _ _ _ HS3.out (by decide) (by decide)
    clear e0 e1
    obtain ⟨e0, _⟩ := sl_cells hs5
    rw [HO.out] at e0
    have H5 := Lib.hid h5
    have H6 := Lib.hid h6
    clear h5 h6 hs5
    go_wp2_with fail
    go_end0
    refine ⟨rfl, (HB.out.trans H3.out).trans H5.out, v5, ?_⟩
    rw [HE.out, HF5.out, if_neg (by rw [HO.out]; simp), List.nil_append, List.append_nil, ← List.append_assoc]
    have h9 := H6.out
    unfold F4
    rw [HWC.out]
    exact h9
  · have hw : wantFree S k = 0 := by unfold wantFree; rw [if_pos ho]
    have hwc : wantCount S n rs k = ((eg S n (k + 1) : Nat) : Int) + ((rs.count (k + 1) : Nat) : Int) := by unfold wantCount; rw [if_pos ho]; omega
    have HWC := Lib.hid hwc
    have HW := Lib.hid hw
    obtain ⟨e0, _⟩ := sl_cells HS1.out
    rw [ho] at e0
    have HO := Lib.hid ho
    obtain ⟨p0, p1, _⟩ := HX.out.at_ H1.out.off HK.out
    obtain ⟨_, _, c2, c3, _⟩ := H1.out.cells
    clear hw hwc ho
    go_wp2_with fail
    go_quiet (fail)
    have hbq : ∀ d, Below w1.heap.size w1 (w1.drewN d) := fun d => below_drewN (Below.refl _ _) d
    rename Nat => dq
    have h1q := H1.out.from (hbq dq)
    have hsq := ((hbq dq).block sb (Array.getElem?_eq_some_iff.1 HS1.out).1).trans HS1.out
    have HBQ : Hid (OthC w1 (w1.drewN dq)) := OthC.of_below (hbq dq)
    have HSQ := Lib.hid hsq
    have H1Q := Lib.hid h1q
    clear hbq h1q hsq e0 p0 p1 c2 c3
    generalize w1.drewN dq = w2 at HSQ H1Q HBQ ⊢
    obtain ⟨p0, _, _⟩ := HX.out.at_ H1Q.out.off HK.out
    obtain ⟨_, _, c2, _⟩ := H1Q.out.cells
    go_wp2_with fail
    refine (cmpf_at ⟨1, k + 1, 0, ((fr.count (k + 1) : Nat) : Int)⟩ (succ_cast k) H1Q.out (by have := HL.out; omega)).mono ?_
    rintro e w3 ⟨rfl, h3, v3, h4⟩
    have h4 : CkS Z q w0 (some ⟨b', off, none⟩) b n c m d gL gE gM (l ++ F1 S fr k) v3 w3 := by rw [← HF1.out, HW.out]; exact h4
    have hs3 := h3 _ _ _ HSQ.out (by decide) (by decide)
    clear p0 c2
    obtain ⟨e0, e1, _, e3, e4, e5, e6, e7, e8, e9, e10⟩ := sl_cells hs3
    rw [HO.out] at e0
    have HS3 := Lib.hid hs3
    have H3 := Lib.hid h3
    have H4 := Lib.hid h4
    clear h3 h4 hs3
    go_wp2_with fail
    refine (checkNode_any k HX.out H4.out (by have := HLEN1.out; omega) HN.out HK.out).mono ?_
    rintro e w4 ⟨rfl, h5, v5, h6⟩
    have hs5 := h5 _ _ _ HS3.out (by decide) (by decide)
    clear e0 e1 e3 e4 e5 e6 e7 e8 e9 e10
    obtain ⟨e0, e1, _⟩ := sl_cells hs5
    rw [HO.out] at e0
    have HS5 := Lib.hid hs5
    have H5 := Lib.hid h5
    have H6 := Lib.hid h6
    clear h5 h6 hs5
    have hmid : (kidsF S n k 2 ++ F3 S n k).length ≤ 3 := by have := HLN.out; rw [if_pos HO.out] at this; exact this
    have HMID := Lib.hid hmid
    clear hmid
    go_wp2_with fail
    refine (cmpf_at ⟨4, k + 1, ((eg S n (k + 1) : Nat) : Int) + ((rs.count (k + 1) : Nat) : Int), (S k).cnt⟩ (succ_cast k) H6.out (by have := (HLEN.out _ HMID.out).1; omega)).mono ?_
    rintro e w5 ⟨rfl, h7, v7, h8⟩
    have h8 : CkS Z q w0 (some ⟨b', off, none⟩) b n c m d gL gE gM (l ++ F1 S fr k ++ (kidsF S n k 2 ++ F3 S n k) ++ F4 S n rs k) v7 w5 := by unfold F4; rw [HWC.out]; exact h8
    have hs7 := h7 _ _ _ HS5.out (by decide) (by decide)
    clear e0 e1
    obtain ⟨e0, _⟩ := sl_cells hs7
    rw [HO.out] at e0
    obtain ⟨_, _, pM⟩ := HX.out.at_ h8.off HK.out
    obtain ⟨_, _, _, _, c4, _⟩ := h8.cells
    have H7 := Lib.hid h7
    have H8 := Lib.hid h8
    clear h7 h8 hs7
    have HEND : Hid (l ++ chk1 S n fr rs R k = l ++ F1 S fr k ++ (kidsF S n k 2 ++ F3 S n k) ++ F4 S n rs k ++ F5 S R k) := by
      show _ = _
      rw [HE.out, if_pos HO.out]
      simp only [List.append_assoc]
    cases hR : R k
    · rw [hR] at pM
      have hf5 : F5 S R k = [⟨5, k + 1, 0, 0⟩] := opt_yes (by rw [HO.out, hR]; rfl)
      have HF5 := Lib.hid hf5
      clear hf5 hR
      go_wp2_with fail
      refine (addf_at ⟨5, k + 1, 0, 0⟩ (succ_cast k) H8.out (by have := (HLEN.out _ HMID.out).2; omega)).mono ?_
      rintro e w6 ⟨rfl, h9, v9, h10⟩
      have H9 := Lib.hid h9
      have H10 := Lib.hid h10
      clear h9 h10
      go_wp2_with fail
      go_end0
      exact ⟨rfl, ((((HB.out.trans HBQ.out).trans H3.out).trans H5.out).trans H7.out).trans H9.out, v9, by rw [HEND.out, HF5.out]; exact H10.out⟩
    · rw [hR] at pM
      have hf5 : F5 S R k = [] := opt_no (by rw [HO.out, hR]; rfl)
      have HF5 := Lib.hid hf5
      clear hf5 hR
      go_wp2_with fail
      go_end0
      exact ⟨rfl, (((HB.out.trans HBQ.out).trans H3.out).trans H5.out).trans H7.out, v7, by rw [HEND.out, HF5.out, List.append_nil]; exact H8.out⟩
end
end Go.Proofs.Yticmaddcomemhaa
