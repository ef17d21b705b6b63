/- The program's audit: checkNode. -/
import Derived.Test.YticmaddcomemhaaAuOk2
set_option linter.unusedVariables false
namespace Go.Proofs.Yticmaddcomemhaa
open Go.RowKit

/-- what the checker reads, whatever becomes of its findings -/
structure CkX (Z q : Nat) (w0 : World) (a b : Option Addr) (n gL gE gM : Nat) (S : Nat → Sl) (fr rs : List Nat) (R : Nat → Bool) : Prop where
  sl : ∀ wx, Off q Z w0 wx → SlotsAt wx a n S
  fa : ∀ wx, Off q Z w0 wx → U32At wx b fr
  li : ∀ wx, Off q Z w0 wx → wx.ownsRow 0 3 1 (.slice (some ⟨gL, 0, none⟩) n n) n (natR n fun i => fr.count (i + 1))
  he : ∀ wx, Off q Z w0 wx → wx.ownsRow 0 3 1 (.slice (some ⟨gE, 0, none⟩) n n) n (natR n fun i => eg S n (i + 1) + rs.count (i + 1))
  ma : ∀ wx, Off q Z w0 wx → wx.ownsRow 0 4 1 (.slice (some ⟨gM, 0, none⟩) n n) n (boolR n R)
  hZ : w0.heap.size = Z
section
variable {Z q n c m d gL gE gM : Nat} {w0 wr w w' : World} {a b : Option Addr} {l : List Fd} {v : Value} {S : Nat → Sl} {fr rs : List Nat} {R : Nat → Bool}
/-- the eight cells of a node in its box -/
def nd8 (x : Nd) : Array Value := #[.int .i64 x.key, .int .i64 x.val, .int .u32 (x.left : Int), .int .u32 (x.right : Int), .int .i64 x.size, .int .i64 x.sum, .int .i64 x.mn, .int .i64 x.mx]
theorem nd_cells {w : World} {g : Nat} {x : Nd} {t : TypeId} (h : w.heap[g]? = some (.cells (nd8 x) t (0, 0))) :
    w.cell? ⟨g, 2, none⟩ = some (.int .u32 (x.left : Int)) ∧ w.cell? ⟨g, 3, none⟩ = some (.int .u32 (x.right : Int)) ∧ w.cell? ⟨g, 4, none⟩ = some (.int .i64 x.size) := by
  refine ⟨?_, ?_, ?_⟩ <;> (rw [cell_of_row _ _ _ _ _ _ h]; rfl)
/-- the loop over the children: t of them are seen -/
def NodeRel (Z q : Nat) (w0 : World) (a b : Option Addr) (n c m d gL gE gM : Nat) (S : Nat → Sl) (k nb : Nat) (l : List Fd) (t : Nat) (wr : World) : Prop :=
  wr.heap[nb]? = some (.cells (nd8 (S k).nd) 44 (0, 0)) ∧ ∃ v, CkS Z q w0 a b n c m d gL gE gM (l ++ kidsF S n k t) v wr
set_option maxHeartbeats 4000000 in
set_option maxRecDepth 100000 in
theorem checkNode_any (k : Nat) (hX : CkX Z q w0 a b n gL gE gM S fr rs R) (h : CkS Z q w0 a b n c m d gL gE gM l v w) (hl : l.length ≤ 10000000) (hn : n ≤ 65536) (hk : k < n) :
    Calls Try.prog 38 #[.pointer (some ⟨q, 0, none⟩), .int .u32 ((k : Int) + 1), .agg (nd8 (S k).nd)] w (CkRes Z q w0 a b n c m d gL gE gM (l ++ (kidsF S n k 2 ++ F3 S n k)) w) := by
  have hb1 := below_new w (Obj.cells (nd8 (S k).nd) 44)
  have h1 := h.from hb1
  have hN := heap_alloc_new w (Obj.cells (nd8 (S k).nd) 44)
  obtain ⟨e2, e3, e4⟩ := nd_cells hN
  obtain ⟨hkl, hkr⟩ := (hX.sl _ h.off).kid k hk
  have HB : Hid (OthC w (w.alloc (Obj.cells (nd8 (S k).nd) 44))) := OthC.of_below hb1
  have HR : Hid (NodeRel Z q w0 a b n c m d gL gE gM S k w.heap.size l 0 (w.alloc (Obj.cells (nd8 (S k).nd) 44))) := ⟨hN, v, by simpa [kidsF] using h1⟩
  have HX := Lib.hid hX
  have HK : Hid (k < n) := hk
  have hkn : (k : Int) + 1 ≤ 65536 := by omega
  have hix0 : ∀ (x y : Value) (w : World), (Instr.index 53 (.agg #[x, y]) (.int .i64 0)).run Try.prog w = .ok x w := fun _ _ _ => by kernel_rfl
  have hix1 : ∀ (x y : Value) (w : World), (Instr.index 53 (.agg #[x, y]) (.int .i64 1)).run Try.prog w = .ok y w := fun _ _ _ => by kernel_rfl
  clear h h1 hN hX hb1
  unfold nd8 at HB HR e2 e3 e4 ⊢
  go_enter Try.func38, Try.ntmps38
  go_wp2_with fail
  generalize w.heap.size = nb at *
  generalize w.alloc _ = w1 at HB HR e2 e3 e4 ⊢
  go_loopw [6, 14] (fun sz i wr => ∃ t : Nat, t ≤ 2 ∧ i = .int .i64 (t : Int) ∧ sz = .int .i64 (szF S n k t) ∧ NodeRel Z q w0 a b n c m d gL gE gM S k nb l t wr ∧ OthC w wr) (fun sz i _ => 2 - (intOf i).toNat)
  case atStart => exact ⟨0, by omega, rfl, rfl, HR.out, HB.out⟩
  case round =>
    clear HR HB e2 e3 e4
    obtain ⟨t, ht, rfl, rfl, ⟨hN, v1, hC⟩, hO⟩ := hrel
    have HN := Lib.hid hN
    have HC := Lib.hid hC
    have HO := Lib.hid hO
    have hlt2 : (l ++ kidsF S n k t).length ≤ 10000002 := by rw [List.length_append]; have := kidsF_le S n k t; omega
    have HLT := Lib.hid hlt2
    by_cases htl : t < 2
    · have hks : kidsF S n k (t + 1) = kidsF S n k t ++ kidF S n k t := kidsF_succ S n k t
      have HKS := Lib.hid hks
      have hsz : szF S n k (t + 1) = if Al S n (kd (S k) t) then IntKind.i64.wrap (szF S n k t + (S (kd (S k) t - 1)).nd.size) else szF S n k t := rfl
      have hkf : kidF S n k t = opt (!decide (Al S n (kd (S k) t)) && kd (S k) t != 0) ⟨2, k + 1, 0, ((kd (S k) t : Nat) : Int)⟩ := rfl
      have HSZ := Lib.hid hsz
      have HKF := Lib.hid hkf
      have hX4 : kd (S k) t < 4294967296 := by unfold kd; split <;> assumption
      have hxe : (t = 0 → kd (S k) t = (S k).nd.left) ∧ (t = 1 → kd (S k) t = (S k).nd.right) := ⟨fun e => by subst e; rfl, fun e => by subst e; rfl⟩
      obtain ⟨hc0, hc1, _⟩ := hC.cells
      have hSX := HX.out.sl _ hC.off
      have HSX := Lib.hid hSX
      clear hks hsz hkf hN hC hO hlt2 hSX
      generalize hXX : kd (S k) t = X at hX4 HSZ HKF hxe
      clear hXX
      generalize szF S n k t = sz at HSZ ⊢
      have hXi : (X : Int) < 4294967296 := by omega
      have hXi0 : (0 : Int) ≤ (X : Int) := by omega
      have hcall := isAlloc_any (b := b) (m := m) (d := d) (c := c) HSX.out hn hX4
      by_cases hal : Al S n X
      · rw [show decide (1 ≤ X ∧ X ≤ n ∧ (S (X - 1)).on = true) = true from decide_eq_true hal] at hcall
        have HCALL := Lib.hid hcall
        have hs2 : szF S n k (t + 1) = IntKind.i64.wrap (sz + (S (X - 1)).nd.size) := by rw [HSZ.out, if_pos hal]
        have hkf2 : kidF S n k t = [] := by rw [HKF.out]; exact opt_no (by simp [hal])
        have HS2 := Lib.hid hs2
        have HKF2 := Lib.hid hkf2
        have hi0 : X - 1 < n := by have := hal.1; have := hal.2.1; omega
        have HI0 := Lib.hid hi0
        have hi1 : (1 : Int) ≤ (X : Int) := by have := hal.1; omega
        have hi2 : (X : Int) - 1 < (n : Int) := by have := hal.2.1; omega
        have hi4 : (X : Int) ≤ (n : Int) := by have := hal.2.1; omega
        have hi3 : ((X : Int) - 1).toNat = X - 1 := by omega
        clear hs2 hkf2 hal hi0 hcall
        rcases (show t = 0 ∨ t = 1 by omega) with rfl | rfl
        all_goals
          first
            | (obtain rfl := hxe.1 rfl)
            | (obtain rfl := hxe.2 rfl)
          clear hxe
          go_wp2_with fail
          refine HCALL.out.mono ?_
          rintro e w3 ⟨rfl, hb3⟩
          have hC3 := HC.out.from hb3
          have hN3 := (hb3.block nb (Array.getElem?_eq_some_iff.1 HN.out).1).trans HN.out
          have hO3 := HO.out.trans (OthC.of_below hb3)
          clear hc0 hc1
          obtain ⟨hc0, hc1, _⟩ := hC3.cells
          obtain ⟨b9, off9, hbo, _, _, _, _, _, _, _, _, g7, _⟩ := (HX.out.sl _ hC3.off).all HI0.out
          have HC3 := Lib.hid hC3
          have HN3 := Lib.hid hN3
          have HO3 := Lib.hid hO3
          have hbo2 := hbo
          clear hC3 hN3 hO3 hb3 hbo
          subst hbo2
          go_wp2
          first
            | (exact ⟨⟨0 + 1, by decide, by go_num, by rw [HS2.out, i64_is'], ⟨HN3.out, v1, by rw [HKS.out, HKF2.out, List.append_nil]; exact HC3.out⟩, HO3.out⟩, by simp [intOf]⟩)
            | (exact ⟨⟨1 + 1, by decide, by go_num, by rw [HS2.out, i64_is'], ⟨HN3.out, v1, by rw [HKS.out, HKF2.out, List.append_nil]; exact HC3.out⟩, HO3.out⟩, by simp [intOf]⟩)
      · rw [show decide (1 ≤ X ∧ X ≤ n ∧ (S (X - 1)).on = true) = false from decide_eq_false hal] at hcall
        have HCALL := Lib.hid hcall
        have hs2 : szF S n k (t + 1) = sz := by rw [HSZ.out, if_neg hal]
        have HS2 := Lib.hid hs2
        by_cases hx0 : X = 0
        · have hkf2 : kidF S n k t = [] := by rw [HKF.out]; exact opt_no (by simp [hx0])
          have HKF2 := Lib.hid hkf2
          have hz : ((X : Int) != 0) = false := by simp [hx0]
          clear hs2 hkf2 hal hcall hx0
          rcases (show t = 0 ∨ t = 1 by omega) with rfl | rfl
          all_goals
            first
              | (obtain rfl := hxe.1 rfl)
              | (obtain rfl := hxe.2 rfl)
            clear hxe
            go_wp2_with fail
            refine HCALL.out.mono ?_
            rintro e w3 ⟨rfl, hb3⟩
            have hC3 := HC.out.from hb3
            have hN3 := (hb3.block nb (Array.getElem?_eq_some_iff.1 HN.out).1).trans HN.out
            have hO3 := HO.out.trans (OthC.of_below hb3)
            have HC3 := Lib.hid hC3
            have HN3 := Lib.hid hN3
            have HO3 := Lib.hid hO3
            clear hC3 hN3 hO3 hb3 hc0 hc1
            go_wp2
            first
              | (exact ⟨⟨0 + 1, by decide, by go_num, by rw [HS2.out], ⟨HN3.out, v1, by rw [HKS.out, HKF2.out, List.append_nil]; exact HC3.out⟩, HO3.out⟩, by simp [intOf]⟩)
              | (exact ⟨⟨1 + 1, by decide, by go_num, by rw [HS2.out], ⟨HN3.out, v1, by rw [HKS.out, HKF2.out, List.append_nil]; exact HC3.out⟩, HO3.out⟩, by simp [intOf]⟩)
        · have hkf2 : kidF S n k t = [⟨2, k + 1, 0, (X : Int)⟩] := by rw [HKF.out]; exact opt_yes (by simp [hal, hx0])
          have HKF2 := Lib.hid hkf2
          have hz : ((X : Int) != 0) = true := by simp; omega
          clear hs2 hkf2 hal hcall hx0
          rcases (show t = 0 ∨ t = 1 by omega) with rfl | rfl
          all_goals
            first
              | (obtain rfl := hxe.1 rfl)
              | (obtain rfl := hxe.2 rfl)
            clear hxe
            go_wp2_with fail
            refine HCALL.out.mono ?_
            rintro e w3 ⟨rfl, hb3⟩
            have hC3 := HC.out.from hb3
            have hN3 := (hb3.block nb (Array.getElem?_eq_some_iff.1 HN.out).1).trans HN.out
            have hO3 := HO.out.trans (OthC.of_below hb3)
            have HC3 := Lib.hid hC3
            have HN3 := Lib.hid hN3
            have HO3 := Lib.hid hO3
            clear hC3 hN3 hO3 hb3 hc0 hc1
            go_wp2_with fail
            refine (addf_at ⟨2, k + 1, 0, _⟩ (succ_cast k) HC3.out (by have := HLT.out; omega)).mono ?_
            rintro e w4 ⟨rfl, h3, v3, h4⟩
            have hN4 := h3 _ _ _ HN3.out (by decide) (by decide)
            have HN4 := Lib.hid hN4
            have H3 := Lib.hid h3
            have H4 := Lib.hid h4
            clear h3 h4 hN4
            go_wp2
            first
              | (exact ⟨⟨0 + 1, by decide, by go_num, by rw [HS2.out], ⟨HN4.out, v3, by rw [HKS.out, HKF2.out, ← List.append_assoc]; exact H4.out⟩, HO3.out.trans H3.out⟩, by simp [intOf]⟩)
              | (exact ⟨⟨1 + 1, by decide, by go_num, by rw [HS2.out], ⟨HN4.out, v3, by rw [HKS.out, HKF2.out, ← List.append_assoc]; exact H4.out⟩, HO3.out.trans H3.out⟩, by simp [intOf]⟩)
    · obtain rfl : t = 2 := by omega
      obtain ⟨e2, e3, e4⟩ := nd_cells hN
      clear hN hC hO hlt2 htl
      go_wp2_with fail
      refine (cmpf_at ⟨3, k + 1, szF S n k 2, (S k).nd.size⟩ (succ_cast k) HC.out (by have := HLT.out; omega)).mono ?_
      rintro e w3 ⟨rfl, h3, v3, h4⟩
      have H3 := Lib.hid h3
      have H4 := Lib.hid h4
      clear h3 h4 e2 e3 e4
      go_wp2_with fail
      go_end0
      exact ⟨rfl, HO.out.trans H3.out, v3, by rw [← List.append_assoc]; exact H4.out⟩
end
end Go.Proofs.Yticmaddcomemhaa
