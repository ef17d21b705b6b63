/- The program's audit: checkFree, checkRoots. -/
import Derived.Test.YticmaddcomemhaaAuOk4
set_option linter.unusedVariables false
namespace Go.Proofs.Yticmaddcomemhaa
open Go.RowKit
section
variable {Z q n c m d gL gE gM : Nat} {w0 wr w w' : World} {a b : Option Addr} {l : List Fd} {v : Value} {S : Nat → Sl} {fr rs : List Nat} {R : Nat → Bool}
theorem rng_yes {X : Nat} (h : ¬ (1 ≤ X ∧ X ≤ n)) : rngF n X = [⟨6, X, 0, 0⟩] := opt_yes (by simp; omega)
theorem rng_no {X : Nat} (h : 1 ≤ X ∧ X ≤ n) : rngF n X = [] := opt_no (by simp; omega)
def FreeRel (Z q : Nat) (w0 : World) (a b : Option Addr) (n c m d gL gE gM : Nat) (l : List Fd) (w : World) (wr : World) : Prop :=
  OthC w wr ∧ ∃ v, CkS Z q w0 a b n c m d gL gE gM l v wr
set_option maxHeartbeats 4000000 in
set_option maxRecDepth 100000 in
theorem checkFree_any (hX : CkX Z q w0 a b n gL gE gM S fr rs R) (h : CkS Z q w0 a b n c m d gL gE gM l v w) (hl : l.length ≤ 9000000) (hn : n ≤ 65536) (hm : fr.length = m) (hm2 : m ≤ 1000000) :
    Calls Try.prog 27 #[.pointer (some ⟨q, 0, none⟩)] w (CkRes Z q w0 a b n c m d gL gE gM (l ++ fr.flatMap (rngF n)) w) := by
  have hmi : (m : Int) ≤ 1000000 := by omega
  obtain ⟨_, hc1, _⟩ := h.cells
  have HX := Lib.hid hX
  have HM := Lib.hid hm
  have HL := Lib.hid hl
  have HN : Hid (n ≤ 65536) := hn
  have HN6 : Hid (n ≤ 1000000) := by show n ≤ 1000000; omega
  have HR : Hid (FreeRel Z q w0 a b n c m d gL gE gM (l ++ (fr.take 0).flatMap (rngF n)) w w) := ⟨OthC.of_below (Below.refl _ _), v, by simpa using h⟩
  clear h hX hm hl hn
  go_enter Try.func27, Try.ntmps27
  go_wp2_with fail
  clear hc1
  go_loopw [10] (fun i wr => ∃ j : Nat, j ≤ m ∧ i = .int .i64 (j : Int) ∧ FreeRel Z q w0 a b n c m d gL gE gM (l ++ (fr.take j).flatMap (rngF n)) w wr) (fun i _ => m - (intOf i).toNat)
  case atStart => exact ⟨0, Nat.zero_le _, rfl, HR.out⟩
  case round =>
    clear HR
    obtain ⟨j, hj, rfl, hO, v1, hC⟩ := hrel
    have HO := Lib.hid hO
    have HC := Lib.hid hC
    have hlen : (l ++ (fr.take j).flatMap (rngF n)).length ≤ 10000000 := by
      rw [List.length_append]
      have h1 := flat_le (l := fr.take j) (f := rngF n) (fun x => opt_le _ _)
      have h2 : (fr.take j).length ≤ j := by simp; omega
      have := HL.out
      omega
    have HLEN := Lib.hid hlen
    clear hlen
    by_cases hlt : j < m
    · have hjl : j < fr.length := by rw [HM.out]; exact hlt
      have hji : (j : Int) < (m : Int) := by omega
      have hj0 : (0 : Int) ≤ (j : Int) := by omega
      have hU := HX.out.fa _ hC.off
      obtain ⟨b2, off2, rfl, hlb, hcell⟩ := hU.cell j hjl
      have hX4 : fr.getD j 0 < 4294967296 := hU.lt _ (getD_mem hjl)
      have HT : Hid (l ++ (fr.take (j + 1)).flatMap (rngF n) = (l ++ (fr.take j).flatMap (rngF n)) ++ rngF n (fr.getD j 0)) := by
        show _ = _
        rw [flat_take hjl, ← List.append_assoc]
      obtain ⟨hc0, _⟩ := hC.cells
      generalize fr.getD j 0 = X at hcell hX4 HT
      have hXi : (X : Int) < 4294967296 := by omega
      have hXi0 : (0 : Int) ≤ (X : Int) := by omega
      clear hU hC hO hjl
      have hcall := isSlot_any X n
      by_cases hs : 1 ≤ X ∧ X ≤ n
      · rw [decide_eq_true hs] at hcall
        have HCALL := Lib.hid hcall
        have hF := rng_no hs
        have HF := Lib.hid hF
        clear hcall hF hs
        go_wp2_with fail
        refine (HCALL.out _ hX4 HN6.out).mono ?_
        rintro e w2 ⟨rfl, rfl⟩
        go_wp2
        exact ⟨⟨j + 1, by omega, by go_num, HO.out, v1, by rw [HT.out, HF.out, List.append_nil]; exact HC.out⟩, by simp [intOf]; omega⟩
      · rw [decide_eq_false hs] at hcall
        have HCALL := Lib.hid hcall
        have hF := rng_yes hs
        have HF := Lib.hid hF
        clear hcall hF hs
        go_wp2_with fail
        refine (HCALL.out _ hX4 HN6.out).mono ?_
        rintro e w2 ⟨rfl, rfl⟩
        go_wp2_with fail
        refine (add_any ⟨6, X, 0, 0⟩ HC.out (by have := HLEN.out; omega)).mono ?_
        rintro e w3 ⟨rfl, h3, v3, h4⟩
        have H3 := Lib.hid h3
        have H4 := Lib.hid h4
        clear h3 h4 hc0 hcell
        go_wp2
        exact ⟨⟨j + 1, by omega, by go_num, HO.out.trans H3.out, v3, by rw [HT.out, HF.out]; exact H4.out⟩, by simp [intOf]; omega⟩
    · have hjm : j = m := by omega
      have HFIN : Hid (CkS Z q w0 a b n c m d gL gE gM (l ++ fr.flatMap (rngF n)) v1 wr) := by
        show CkS _ _ _ _ _ _ _ _ _ _ _ _ _ _ _
        have h9 := HC.out
        rw [List.take_of_length_le (by rw [HM.out]; omega)] at h9
        exact h9
      rw [hjm]
      clear hC hO hjm hlt
      go_wp2
      go_end0
      exact ⟨rfl, HO.out, v1, HFIN.out⟩
set_option maxHeartbeats 4000000 in
set_option maxRecDepth 100000 in
theorem checkRoots_any {ra : Option Addr} {L rc : Nat} (hX : CkX Z q w0 a b n gL gE gM S fr rs R) (h : CkS Z q w0 a b n c m d gL gE gM l v w) (hr : ∀ wx, Off q Z w0 wx → U32At wx ra rs) (hl : l.length ≤ 9000000) (hn : n ≤ 65536) (hm : rs.length = L) (hm2 : L ≤ 1000000) :
    Calls Try.prog 28 #[.pointer (some ⟨q, 0, none⟩), .slice ra L rc] w (CkRes Z q w0 a b n c m d gL gE gM (l ++ rs.flatMap (rootF S n)) w) := by
  have hmi : (L : Int) ≤ 1000000 := by omega
  have HX := Lib.hid hX
  have HM := Lib.hid hm
  have HL := Lib.hid hl
  have HRS := Lib.hid hr
  have HN : Hid (n ≤ 65536) := hn
  have HR : Hid (FreeRel Z q w0 a b n c m d gL gE gM (l ++ (rs.take 0).flatMap (rootF S n)) w w) := ⟨OthC.of_below (Below.refl _ _), v, by simpa using h⟩
  clear h hX hm hl hn hr
  go_enter Try.func28, Try.ntmps28
  go_wp2_with fail
  go_loopw [8] (fun i wr => ∃ j : Nat, j ≤ L ∧ i = .int .i64 (j : Int) ∧ FreeRel Z q w0 a b n c m d gL gE gM (l ++ (rs.take j).flatMap (rootF S n)) w wr) (fun i _ => L - (intOf i).toNat)
  case atStart => exact ⟨0, Nat.zero_le _, rfl, HR.out⟩
  case round =>
    clear HR
    obtain ⟨j, hj, rfl, hO, v1, hC⟩ := hrel
    have HO := Lib.hid hO
    have HC := Lib.hid hC
    have hlen : (l ++ (rs.take j).flatMap (rootF S n)).length ≤ 10000000 := by
      rw [List.length_append]
      have h1 := flat_le (l := rs.take j) (f := rootF S n) (fun x => opt_le _ _)
      have h2 : (rs.take j).length ≤ j := by simp; omega
      have := HL.out
      omega
    have HLEN := Lib.hid hlen
    clear hlen
    by_cases hlt : j < L
    · have hjl : j < rs.length := by rw [HM.out]; exact hlt
      have hji : (j : Int) < (L : Int) := by omega
      have hj0 : (0 : Int) ≤ (j : Int) := by omega
      have hU := HRS.out _ hC.off
      obtain ⟨b2, off2, rfl, hlb, hcell⟩ := hU.cell j hjl
      have hX4 : rs.getD j 0 < 4294967296 := hU.lt _ (getD_mem hjl)
      have HT : Hid (l ++ (rs.take (j + 1)).flatMap (rootF S n) = (l ++ (rs.take j).flatMap (rootF S n)) ++ rootF S n (rs.getD j 0)) := by
        show _ = _
        rw [flat_take hjl, ← List.append_assoc]
      obtain ⟨hc0, hc1, _⟩ := hC.cells
      have hS := HX.out.sl _ hC.off
      generalize rs.getD j 0 = X at hcell hX4 HT
      have hcall := isAlloc_any (b := b) (m := m) (d := d) (c := c) hS HN.out hX4
      have hXi : (X : Int) < 4294967296 := by omega
      have hXi0 : (0 : Int) ≤ (X : Int) := by omega
      clear hU hC hO hjl hS
      by_cases h0 : X = 0
      · subst h0
        have hF : rootF S n 0 = [] := opt_no (by simp)
        have HF := Lib.hid hF
        clear hF hcall
        go_wp2
        exact ⟨⟨j + 1, by omega, by go_num, HO.out, v1, by rw [HT.out, HF.out, List.append_nil]; exact HC.out⟩, by simp [intOf]; omega⟩
      · have hz : ((X : Int) != 0) = true := by simp; omega
        by_cases hal : Al S n X
        · rw [show decide (1 ≤ X ∧ X ≤ n ∧ (S (X - 1)).on = true) = true from decide_eq_true hal] at hcall
          have HCALL := Lib.hid hcall
          have hF : rootF S n X = [] := opt_no (by simp [hal])
          have HF := Lib.hid hF
          clear hF hal hcall h0
          go_wp2_with fail
          refine HCALL.out.mono ?_
          rintro e w2 ⟨rfl, hb2⟩
          have HC2 := Lib.hid (HC.out.from hb2)
          have HO2 := Lib.hid (HO.out.trans (OthC.of_below hb2))
          clear hb2 hc0 hc1 hcell
          go_wp2
          exact ⟨⟨j + 1, by omega, by go_num, HO2.out, v1, by rw [HT.out, HF.out, List.append_nil]; exact HC2.out⟩, by simp [intOf]; omega⟩
        · rw [show decide (1 ≤ X ∧ X ≤ n ∧ (S (X - 1)).on = true) = false from decide_eq_false hal] at hcall
          have HCALL := Lib.hid hcall
          have hF : rootF S n X = [⟨7, X, 0, 0⟩] := opt_yes (by simp [hal, h0])
          have HF := Lib.hid hF
          clear hF hal hcall h0
          go_wp2_with fail
          refine HCALL.out.mono ?_
          rintro e w2 ⟨rfl, hb2⟩
          have HC2 := Lib.hid (HC.out.from hb2)
          have HO2 := Lib.hid (HO.out.trans (OthC.of_below hb2))
          clear hb2 hc0 hc1 hcell
          go_wp2_with fail
          refine (add_any ⟨7, X, 0, 0⟩ HC2.out (by have := HLEN.out; omega)).mono ?_
          rintro e w3 ⟨rfl, h3, v3, h4⟩
          have H3 := Lib.hid h3
          have H4 := Lib.hid h4
          clear h3 h4
          go_wp2
          exact ⟨⟨j + 1, by omega, by go_num, HO2.out.trans H3.out, v3, by rw [HT.out, HF.out]; exact H4.out⟩, by simp [intOf]; omega⟩
    · have hjm : j = L := by omega
      have HFIN : Hid (CkS Z q w0 a b n c m d gL gE gM (l ++ rs.flatMap (rootF S n)) v1 wr) := by
        show CkS _ _ _ _ _ _ _ _ _ _ _ _ _ _ _
        have h9 := HC.out
        rw [List.take_of_length_le (by rw [HM.out]; omega)] at h9
        exact h9
      rw [hjm]
      clear hC hO hjm hlt
      go_wp2
      go_end0
      exact ⟨rfl, HO.out, v1, HFIN.out⟩
end
end Go.Proofs.Yticmaddcomemhaa
