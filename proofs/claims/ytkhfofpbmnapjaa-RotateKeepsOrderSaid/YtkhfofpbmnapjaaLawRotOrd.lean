/- RotateKeepsOrder over contracts. -/
import Derived.Test.YtkhfofpbmnapjaaRotOrd
import Derived.Test.YtkhfofpbmnapjaaRefTree
import Derived.Test.YtkhfofpbmnapjaaRefSame
set_option linter.unusedVariables false
set_option linter.unusedSimpArgs false
namespace Go.Proofs.Ytkhfofpbmnapjaa
open Go.RowKit
set_option maxHeartbeats 8000000 in
set_option maxRecDepth 100000 in
theorem rotord_walk (I : AImpl) (hchk : CheckSpec) (K : RotImpl I) {a : Option Addr} {n c : Nat} {raw : List En} {tilt : Int} {kind : Int} {w : World} (hE : EnsAt w a raw) (hn : raw.length = n) (hnm : n ≤ 9223372036854775807) (ht0 : 0 ≤ tilt) (ht1 : tilt < 18446744073709551616) (hk0 : 0 ≤ kind) (hk1 : kind < 256) :
    Calls Try.prog 5 #[.slice a n c, .int .u64 tilt, .int .u8 kind] w (Calm w (.bool true)) := by
  have HK := Lib.hid K
  have HCHK := Lib.hid hchk
  have HKI : Hid (0 ≤ kind ∧ kind < 256) := ⟨hk0, hk1⟩
  clear K hchk hk0 hk1
  have HWF : Hid (∀ y ∈ listE raw 60, i64R y.key ∧ i64R y.val) := fun y hy => hE.wf y (listE_mem hy)
  have HL := Lib.hid (list_any (c := c) (k := 60) hE hn hnm (by decide))
  have HT : Hid (0 ≤ tilt ∧ tilt < 18446744073709551616) := ⟨ht0, ht1⟩
  have HUP := Lib.hid (listE_up raw 60)
  have HLEN := Lib.hid (listE_len raw 60)
  clear hE hn hnm ht0 ht1
  go_enter Try.func5, Try.ntmps5
  go_wp2_with fail
  refine HL.out.mono ?_
  rintro e w1 ⟨a1, c1, rfl, hr1, hb1⟩
  have HR1 := Lib.hid hr1
  have HB1 := Lib.hid hb1
  clear hr1 hb1 HL
  generalize listE raw 60 = l at HUP HLEN HR1 HWF ⊢
  obtain ⟨L, hL⟩ : ∃ L, l.length = L := ⟨_, rfl⟩
  rw [hL] at HLEN HR1 ⊢
  have HLL := Lib.hid hL
  have hLi : (L : Int) ≤ 60 := by have := HLEN.out; omega
  have HE1 := Lib.hid (ens_row hL HR1.out HWF.out)
  have HC1 := Lib.hid (row_caps HR1.out)
  clear hL
  go_wp2_with fail
  refine (grow_any I (sp := 3) (m := L + 3) HE1.out HLL.out HC1.out.1 HC1.out.2 rfl (by omega) (by have := HLEN.out; omega) HT.out.1 HT.out.2).mono ?_
  rintro e w2 ⟨p, A, ri, t, F, rfl, hg⟩
  obtain ⟨pa, rfl⟩ := I.ptr hg.is
  have HTR := Lib.hid (hg.planted.tree HUP.out)
  have HPL := Lib.hid hg.planted
  have HS2 := Lib.hid (Scn.init hg HB1.out HR1.out)
  clear hg HR1 HE1 HC1 HT
  go_wp2_with fail
  refine (awake12_any I HK.out w2).mono ?_
  rintro e w3 ⟨rfl, hb3⟩
  have HS3 := Lib.hid (HS2.out.calm hb3)
  clear hb3 HS2
  have HRI : Hid (ri < 4294967296) := HTR.out.idx
  have HHM : Hid (∀ j, pls (fun _ => 0) ri j ≤ 1048000) := fun j => by rw [pls_at]; split <;> omega
  have HFR : Hid (A.σ.free.length = 3) := by have h := HPL.out.free; rw [HLL.out] at h; have h2 : (Ar.init (L + 3)).σ.free.length = L + 3 := by show (List.range' 1 (L + 3)).length = _; simp
                                             show _ = _; omega
  obtain ⟨k, hk⟩ : ∃ k : Nat, kind.tmod 4 = (k : Int) := ⟨(kind.tmod 4).toNat, by have := HKI.out; rw [Int.tmod_eq_emod_of_nonneg this.1]; omega⟩
  have hk3 : k ≤ 3 := by have := HKI.out; rw [Int.tmod_eq_emod_of_nonneg this.1] at hk; omega
  have HK3 := Lib.hid hk3
  have w1 : IntKind.i64.wrap (k : Int) = (k : Int) := by rw [IntKind.wrap_i64]; omega
  have HKE := Lib.hid hk
  clear hk3
  go_wp2_with fail
  refine (HS3.out.mut fun F hI => (call12_res I HK.out w3 hI HPL.out.inv HPL.out.agg (HPL.out.wf HUP.out HWF.out) HHM.out (by decide) (by decide) HRI.out HK3.out).mono fun e w' h => h.mut).mono ?_
  rintro e w4 ⟨A4, rd4, ⟨hr0, hr1, hq⟩, hs4⟩
  have HS4 := Lib.hid hs4
  clear hs4 HS3 hr0 hr1
  rcases hq with ⟨q1, rfl, rfl⟩ | ⟨q1, q2, -⟩ | ⟨q1, q2, j, ht, hn, rfl⟩
  rotate_left
  · exact absurd q2 (by rw [HFR.out]; unfold rneed; split <;> omega)
  · obtain ⟨t', hs', he'⟩ := sub_rot HK3.out HPL.out.inv ht.inv HTR.out.sub ht.kept q1 hn
    rw [HTR.out.ents] at he'
    have HT' := Lib.hid hs'
    have HE' := Lib.hid he'
    have HTU := Lib.hid ht
    have hri0 : ri ≠ 0 := by have := HPL.out.inv.ok.on ri (rform_on q1); omega
    have hj : A4.σ.on j = true := by
      have hk4 : k = 0 ∨ k = 1 ∨ k = 2 ∨ k = 3 := by have := HK3.out; omega
      rcases hk4 with rfl | rfl | rfl | rfl
      · exact hn.elim fun z h => h.1.1
      · exact hn.elim fun z h => h.1.1
      · exact hn.elim fun y h => h.elim fun z h => h.2.1.1
      · exact hn.elim fun y h => h.elim fun z h => h.2.1.1
    have HJ : Hid (A4.σ.on ri = true ∧ A4.σ.on j = true ∧ j ≠ 0 ∧ j < 4294967296 ∧ ri ≠ 0) := by
      have h1 := ht.inv.ok.on j hj
      have h2 := ht.inv.ok.cap2
      exact ⟨ht.kept.on ri (rform_on q1), hj, by omega, by omega, hri0⟩
    have HSZ : Hid (t'.size ≤ 1000000) := by
      have h1 := congrArg List.length he'
      rw [Tr.ents_len, HLL.out] at h1
      have h2 := HLEN.out
      show _ ≤ _
      omega
    clear q1 q2 hn ht hs' he' hj hri0
    go_wp2_with fail
    refine HS4.out.dump.mono ?_
    rintro e w5 ⟨da, dc, db, dd, rfl, hs5, hb5⟩
    have HS5 := Lib.hid hs5
    clear hs5 hb5 HS4
    go_wp2_with fail
    refine (listT_any HTU.out.inv.ok HT'.out w5 da db _ dc _ dd rfl (HS5.out.slots_of (c := dc) HTU.out.inv rfl (by simp)) HSZ.out).mono ?_
    rw [HE'.out]
    rintro e w6 hme
    obtain ⟨a6, c6, rfl, hE6, hb6⟩ := made_ens hme HWF.out HLL.out
    have HS6 := Lib.hid (HS5.out.calm hb6)
    have HE6 := Lib.hid hE6
    clear hme hE6 hb6 HS5
    go_wp2_with fail
    refine (same_ens HE6.out (ens_row HLL.out (HS6.out.rows ⟨60, 2, .slice a1 L c1, L, ensV l⟩ (by simp)) HWF.out) HLL.out (by have := HLEN.out; omega)).mono ?_
    rintro e w7 ⟨rfl, hb7⟩
    have HS7 := Lib.hid (HS6.out.calm hb7)
    clear hb7 HS6 HE6
    go_wp2_with fail
    have hs8 := HS7.out.box #[.int .u32 (ri : Int), .int .u32 (j : Int)] 28
    have hu := u2_at w7 28 ri j HRI.out HJ.out.2.2.2.1
    have hb8 : Below w.heap.size w (w7.alloc (Obj.cells #[.int .u32 (ri : Int), .int .u32 (j : Int)] 28)) := hs8.below
    have hv : A4.Inv [] (hof [ri, j]) := by
      have h := HTU.out.inv
      rw [hof_one HJ.out.2.2.2.2, hof_two ri HJ.out.2.2.1] at h
      exact h
    refine (hs8.sound HCHK.out hv HTU.out.agg hu (L := 2) rfl (by decide) (fun x hx => ?_)).mono ?_
    · simp at hx
      rcases hx with rfl | rfl
      · exact .inr HJ.out.1
      · exact .inr HJ.out.2.1
    rintro e w9 ⟨rfl, hb9⟩
    have HB9 := Lib.hid (hb8.trans (hb9.mono hb8.size))
    clear hs8 hu hb8 hv hb9 HS7
    go_wp2_with fail
    go_ret
    exact ⟨rfl, HB9.out⟩
  · have HQ1 := Lib.hid q1
    clear q1
    go_wp2_with fail
    refine HS4.out.dump.mono ?_
    rintro e w5 ⟨da, dc, db, dd, rfl, hs5, hb5⟩
    have HS5 := Lib.hid hs5
    clear hs5 hb5 HS4
    go_wp2_with fail
    refine (formed12_any (HS5.out.slots_of (c := dc) HPL.out.inv rfl (by simp)) HPL.out.inv.ok rfl HRI.out HK3.out (fun j hj => HPL.out.inv.child j hj)).mono ?_
    rintro e w6 ⟨rfl, hb6⟩
    rw [HQ1.out]
    have hb := HS5.out.below
    have HB9 := Lib.hid (hb.trans (hb6.mono HS5.out.mr.hB))
    clear hb6 hb HS5
    go_wp2_with fail
    go_ret
    exact ⟨rfl, HB9.out⟩
end Go.Proofs.Ytkhfofpbmnapjaa
