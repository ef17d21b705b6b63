/- The walk of AuditAgrees. Condition: the program's Check keeps its contract. -/
import Derived.Test.YticmaddcomemhaaAuOk8
import Derived.Test.YticmaddcomemhaaAuAwake
import Derived.Test.YticmaddcomemhaaAuLarge
import Derived.Test.YticmaddcomemhaaChkA
import Derived.Test.YticmaddcomemhaaSameRows
import Derived.Deep.RegionHeld3
set_option linter.unusedVariables false
namespace Go.Proofs.Yticmaddcomemhaa
open Go.RowKit
def TrueRes (w : World) (e : Ending) (w' : World) : Prop := e = .returned (.bool true) ∧ Below w.heap.size w w'
set_option maxHeartbeats 40000000 in
set_option maxRecDepth 100000 in
theorem agrees_walk (hck : PCheckSpec) (w : World) (a b ra : Option Addr) (n c m d L rc : Nat) (S : Nat → Sl) (fr rs : List Nat) (hM : fr.length = m) (hL : rs.length = L) (hS : SlotsAt w a n S) (hF : U32At w b fr) (hR : U32At w ra rs) :
    Calls Try.prog 3 #[.agg #[.slice a n c, .slice b m d], .slice ra L rc] w (TrueRes w) := by
  have hb1 := below_new w (Obj.cells #[Value.slice a n c, Value.slice b m d] 25)
  have hX := DBox.new w a b n c m d
  have HB := Lib.hid hb1
  have HS := Lib.hid (hS.below hb1)
  have HRS := Lib.hid (hR.below hb1)
  have HFR := Lib.hid (hF.below hb1)
  have HX := Lib.hid hX
  have hsz : (w.alloc (Obj.cells #[Value.slice a n c, Value.slice b m d] 25)).heap.size = w.heap.size + 1 := by simp
  have HZ := Lib.hid hsz
  have HM := Lib.hid hM
  have HL := Lib.hid hL
  have HCK := Lib.hid hck
  obtain ⟨hc0, hc1⟩ := hX.cells
  clear hb1 hS hF hR hsz hL hM hX hck
  go_enter Try.func3, Try.ntmps3
  go_upto_region 1 with fail
  generalize hW1 : w.alloc (Obj.cells #[Value.slice a n c, Value.slice b m d] 25) = w1 at *
  clear hW1
  generalize hQ : w.heap.size = q at *
  have HQ := Lib.hid hQ
  clear hQ
  have HSS : Hid (∀ wx, Below (q + 1) w1 wx → SlotsAt wx a n S) := fun wx hb => HS.out.below (hb.mono (Nat.le_of_eq HZ.out))
  have HRX : Hid (∀ wx, Below (q + 1) w1 wx → U32At wx ra rs) := fun wx hb => HRS.out.below (hb.mono (Nat.le_of_eq HZ.out))
  have HFX : Hid (∀ wx, Below (q + 1) w1 wx → U32At wx b fr) := fun wx hb => HFR.out.below (hb.mono (Nat.le_of_eq HZ.out))
  have HXX : Hid (∀ wx, Below (q + 1) w1 wx → wx.cell? ⟨q, 0, none⟩ = some (.slice a n c) ∧ wx.cell? ⟨q, 1, none⟩ = some (.slice b m d)) := fun wx hb => (HX.out.below hb (Nat.lt_succ_self q)).cells
  have HNX : Hid (∀ wx wy, Below (q + 1) w1 wx → Below wx.heap.size wx wy → Below (q + 1) w1 wy) := fun wx wy h1 h2 => h1.trans (h2.mono (Nat.le_trans (Nat.le_of_eq HZ.out.symm) h1.size))
  have HEND : Hid (∀ wx, Below (q + 1) w1 wx → TrueRes w (.returned (.bool true)) wx) := fun wx hb => ⟨rfl, by rw [HQ.out]; exact HB.out.trans (hb.mono (Nat.le_succ q))⟩
  go_wp2_with fail
  refine (large_any w1 a b ra n c m d L rc).mono ?_
  rintro e w2 ⟨rfl, hb2⟩
  have hbb := HNX.out _ _ (Below.refl _ _) hb2
  have HBB := Lib.hid hbb
  clear hc0 hc1 hb2 hbb
  by_cases hlg : 60 < n ∨ 60 < m ∨ 60 < L
  · rw [decide_eq_true hlg]
    clear hlg
    go_wp2_with fail
    refine (awake_any HCK.out w2).mono ?_
    rintro e w3 ⟨rfl, hb3⟩
    have HB3 := Lib.hid (HNX.out _ _ HBB.out hb3)
    clear hb3
    go_wp2_with fail
    go_ret
    exact HEND.out _ HB3.out
  · rw [decide_eq_false hlg]
    have hn : n ≤ 65536 := by omega
    have hm : m ≤ 1000000 := by omega
    have hl : L ≤ 1000000 := by omega
    have hni : (n : Int) ≤ 65536 := by omega
    clear hlg
    have HRCL : Hid (∀ j, j < n → ((fun j => @decide (Rch S n rs (j + 1)) (Classical.propDecidable _)) j = true ↔ Rch S n rs (j + 1))) := fun j _ => by simp
    generalize (fun j => @decide (Rch S n rs (j + 1)) (Classical.propDecidable _)) = R at HRCL
    have HCH : Hid (∀ wx, Below (q + 1) w1 wx → Calls Try.prog 18 #[.agg #[.slice a n c, .slice b m d], .slice ra L rc] wx (MadeFds wx (chk S n fr rs R))) := fun wx hb => by
      have := check_any (c := c) (d := d) (rc := rc) fr rs (HSS.out _ hb) (HFX.out _ hb) (HRX.out _ hb) hn (by rw [HM.out]; exact hm) (by rw [HL.out]; exact hl) R HRCL.out
      rw [HM.out, HL.out] at this
      exact this
    have HCP : Hid (∀ wx, Below (q + 1) w1 wx → Calls Try.prog 17 #[.agg #[.slice a n c, .slice b m d], .slice ra L rc] wx (PFds wx (chk S n fr rs R))) := fun wx hb => HCK.out _ _ _ _ _ _ _ _ _ _ _ _ _ HM.out HL.out (HSS.out _ hb) (HFX.out _ hb) (HRX.out _ hb) hn hm hl R HRCL.out
    have hlenR : ((rchL R n).length : Int) ≤ 65536 := by have := rchL_le R n; omega
    have hlenC : (chk S n fr rs R).length ≤ 10000000 := by
      unfold chk
      rw [List.length_append, List.length_append]
      have h1 := flat_le (l := fr) (f := rngF n) (fun x => opt_le _ _)
      have h2 := flat_le (l := rs) (f := rootF S n) (fun x => opt_le _ _)
      have h3 := chks_le S n fr rs R n
      have := HM.out
      have := HL.out
      omega
    have HLR := Lib.hid hlenR
    have HLC := Lib.hid hlenC
    clear hlenR hlenC
    obtain ⟨hc0, hc1⟩ := HXX.out _ HBB.out
    have hbd : Below (q + 1) w1 w2.drew := HBB.out.drew
    go_upto_region 3 with fail
    go_region_held3 (fun w' => Below (q + 1) w1 w' ∧ w'.cell? ⟨q, 0, none⟩ = some (.slice a n c) ∧ w'.cell? ⟨q, 1, none⟩ = some (.slice b m d)) (go_keep) (first
      | (go_at_call 9; refine (awake_any HCK.out _).mono ?_; rintro e wA ⟨rfl, hbA⟩; have hbn := HNX.out _ _ (by assumption) hbA; obtain ⟨hd0, hd1⟩ := HXX.out _ hbn; clear hbA)
      | (go_at_call 11; refine (pInEdges_any (b := b) (m := m) (d := d) (c := c) (HSS.out _ (by assumption)) hn).mono ?_; rintro e wE ⟨gE, rfl, hoE, hbE⟩; have hbn := HNX.out _ _ (by assumption) hbE; obtain ⟨hd0, hd1⟩ := HXX.out _ hbn; have HOE := Lib.hid hoE; have HBE := Lib.hid hbE; clear hoE hbE)
      | (go_at_call 12; refine (inEdges_any (b := b) (m := m) (d := d) (c := c) (HSS.out _ (by assumption)) hn).mono ?_; rintro e wF ⟨gF, rfl, hoF, hbF⟩; have hbn := HNX.out _ _ (by assumption) hbF; obtain ⟨hd0, hd1⟩ := HXX.out _ hbn; have HOF := Lib.hid hoF; have HBF := Lib.hid hbF; clear hoF hbF)
      | (go_at_call 10; (first | refine (same_ints _ wF hni (row_below HOE.out HBF.out) HOF.out).mono ?_ | refine (same_ints _ wE hni HOE.out (row_below HOF.out HBE.out)).mono ?_); rintro e wA ⟨rfl, hbA⟩; have hbn := HNX.out _ _ (by assumption) hbA; obtain ⟨hd0, hd1⟩ := HXX.out _ hbn; clear hbA)
      | (go_at_call 14; refine (pReach_any (b := b) (m := m) (d := d) (c := c) (rc := rc) rs HL.out (HSS.out _ (by assumption)) (HRX.out _ (by assumption)) hn hl R HRCL.out).mono ?_; rintro e wP ⟨aP, cP, rfl, hoP, hbP⟩; have hbn := HNX.out _ _ (by assumption) hbP; obtain ⟨hd0, hd1⟩ := HXX.out _ hbn; have HOP := Lib.hid hoP; have HBP := Lib.hid hbP; clear hoP hbP)
      | (go_at_call 15; refine (rReach_any (b := b) (m := m) (d := d) (c := c) (rc := rc) rs HL.out (HSS.out _ (by assumption)) (HRX.out _ (by assumption)) hn hl R HRCL.out).mono ?_; rintro e wQ ⟨aQ, cQ, rfl, hoQ, hbQ⟩; have hbn := HNX.out _ _ (by assumption) hbQ; obtain ⟨hd0, hd1⟩ := HXX.out _ hbn; have HOQ := Lib.hid hoQ; have HBQ := Lib.hid hbQ; clear hoQ hbQ)
      | (go_at_call 13; (first | refine (same_rows (rchL R n) wQ HLR.out (row_below HOP.out HBQ.out) HOQ.out).mono ?_ | refine (same_rows (rchL R n) wP HLR.out HOP.out (row_below HOQ.out HBP.out)).mono ?_); rintro e wA ⟨rfl, hbA⟩; have hbn := HNX.out _ _ (by assumption) hbA; obtain ⟨hd0, hd1⟩ := HXX.out _ hbn; clear hbA)
      | (go_at_call 17; refine (HCP.out _ (by assumption)).mono ?_; rintro e wU ⟨aU, cU, rfl, hoU, hbU⟩; have hbn := HNX.out _ _ (by assumption) hbU; obtain ⟨hd0, hd1⟩ := HXX.out _ hbn; have HOU := Lib.hid (fds_at hoU); have HBU := Lib.hid hbU; clear hoU hbU)
      | (go_at_call 18; refine (HCH.out _ (by assumption)).mono ?_; rintro e wV ⟨aV, cV, rfl, hoV, hbV⟩; have hbn := HNX.out _ _ (by assumption) hbV; obtain ⟨hd0, hd1⟩ := HXX.out _ hbn; have HOV := Lib.hid (fds_at hoV); have HBV := Lib.hid hbV; clear hoV hbV)
      | (go_at_call 16; (first | refine (same_fds (w := wV) (chk S n fr rs R) rfl (HOU.out.below HBV.out) HOV.out HLC.out).mono ?_ | refine (same_fds (w := wU) (chk S n fr rs R) rfl HOU.out (HOV.out.below HBU.out) HLC.out).mono ?_); rintro e wZ ⟨rfl, hbA⟩; have hbz := HNX.out _ _ (by assumption) hbA; obtain ⟨hd0, hd1⟩ := HXX.out _ hbz; clear hbA))
    all_goals (go_wp2_with fail; go_ret; exact HEND.out _ hbz)
end Go.Proofs.Yticmaddcomemhaa
