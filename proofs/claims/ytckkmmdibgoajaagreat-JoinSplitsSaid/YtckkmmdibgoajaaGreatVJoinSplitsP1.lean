/- Of the proof of VJoinSplitsP: RefNear, RefRsv, RefSub, JnAw, LawJnSplits. -/
import Derived.Test.YtckkmmdibgoajaaGreatV1
import Derived.Test.YtckkmmdibgoajaaGreatV2
import Derived.Test.YtckkmmdibgoajaaGreatV3
import Derived.Test.YtckkmmdibgoajaaGreatV4
import Derived.Test.YtckkmmdibgoajaaGreatV5
import Derived.Test.YtckkmmdibgoajaaGreatV6
import Derived.Test.YtckkmmdibgoajaaGreatV11
import Derived.Test.YtckkmmdibgoajaaGreatV12
import Derived.Test.YtckkmmdibgoajaaGreatV13
import Derived.Test.YtckkmmdibgoajaaGreatV16
import Derived.Deep.DeepCutAuto
import Derived.Laws.OwnMore
import Derived.Laws.AppendOwnNone
import Derived.Deep.RegionHeldLaw
import Derived.Deep.RegionHeld3
import Derived.Deep.QuietTactic
set_option linter.unusedVariables false
set_option linter.unusedSimpArgs false
namespace Go.Proofs.YtckkmmdibgoajaaGreat
open Go.RowKit
theorem rankE_succ {l : List En} {j : Nat} {e : En} (h : l[j]? = some e) (k : Int) : rankE (l.take (j + 1)) k = rankE (l.take j) k + (if e.key < k then 1 else 0) := by
  obtain ⟨hj, he⟩ := List.getElem?_eq_some_iff.1 h
  unfold rankE
  rw [List.take_succ_eq_append_getElem hj, List.countP_append, he]
  congr 1
  by_cases hk : e.key < k <;> simp [hk]
set_option maxHeartbeats 1000000 in
set_option maxRecDepth 100000 in
theorem rank_any {w : World} {a : Option Addr} {n c : Nat} {l : List En} (k : Int) (h : EnsAt w a l) (hn : l.length = n) (hl : n ≤ 1000000) :
    Calls Tryz.prog 40 #[.slice a n c, .int .i64 k] w fun e w' => e = .returned (.int .i64 (rankE l k : Int)) ∧ w' = w := by
  have HE := Lib.hid h
  have HN := Lib.hid hn
  have hni : (n : Int) ≤ 1000000 := by omega
  have HL := Lib.hid hl
  clear h hn hl
  go_enter Tryz.func40, Tryz.ntmps40
  go_wp2_with fail
  go_loopw [5, 6] (fun x i wr => ∃ j : Nat, i = .int .i64 (j : Int) ∧ x = .int .i64 (rankE (l.take j) k : Int) ∧ j ≤ n ∧ wr = w) (fun _ i _ => n - (intOf i).toNat)
  case atStart => exact ⟨0, rfl, rfl, Nat.zero_le _, rfl⟩
  case round =>
    obtain ⟨j, rfl, rfl, hj, rfl⟩ := hrel
    have HJ := Lib.hid hj
    have hj0 : (0 : Int) ≤ (j : Int) := by omega
    have hrl := rankE_le (l.take j) k
    rw [List.length_take] at hrl
    have hrb : rankE (l.take j) k ≤ 1000000 := by have := HL.out; omega
    by_cases hlt : j < n
    · have hji : (j : Int) < (n : Int) := by omega
      obtain ⟨e, he⟩ : ∃ e, l[j]? = some e := ⟨_, List.getElem?_eq_getElem (by have := HN.out; omega)⟩
      obtain ⟨b, off, rfl, hb, c0, c1⟩ := HE.out.at he
      have hs := rankE_succ he k
      obtain ⟨R, hR⟩ : ∃ R, rankE (l.take j) k = R := ⟨_, rfl⟩
      rw [hR] at hs hrb ⊢
      have hwR : IntKind.i64.wrap ((R : Int) + 1) = ((R + 1 : Nat) : Int) := by rw [IntKind.wrap_i64]; omega
      have HS := Lib.hid hs
      have HLT := Lib.hid hlt
      by_cases hk : e.key < k
      · have hkd : decide (e.key < k) = true := decide_eq_true hk
        have HK : Hid (rankE (l.take (j + 1)) k = R + 1) := by show _ = _; rw [HS.out, if_pos hk]
        clear hj hlt hrl hrb hs hR he hk hb c1
        go_wp2_with fail
        exact ⟨⟨j + 1, by go_num, by rw [HK.out]; go_num, by have := HLT.out; omega, trivial⟩, by have := HLT.out; simp [intOf]; omega⟩
      · have hkd : decide (e.key < k) = false := decide_eq_false hk
        have HK : Hid (rankE (l.take (j + 1)) k = R) := by show _ = _; rw [HS.out, if_neg hk]; rfl
        clear hj hlt hrl hrb hs hR he hk hb c1 hwR
        go_wp2_with fail
        exact ⟨⟨j + 1, by go_num, by rw [HK.out], by have := HLT.out; omega, trivial⟩, by have := HLT.out; simp [intOf]; omega⟩
    · have hji : ¬ (j : Int) < (n : Int) := by omega
      have HK : Hid (rankE (l.take j) k = rankE l k) := by show _ = _; rw [List.take_of_length_le (by have := HN.out; omega)]
      clear hj hlt hrl hrb
      go_wp2_with fail
      go_ret
      exact ⟨by rw [← HK.out]; rfl, rfl⟩
end Go.Proofs.YtckkmmdibgoajaaGreat
set_option linter.unusedVariables false
set_option linter.unusedSimpArgs false
namespace Go.Proofs.YtckkmmdibgoajaaGreat
open Go.RowKit
end Go.Proofs.YtckkmmdibgoajaaGreat
set_option linter.unusedVariables false
set_option linter.unusedSimpArgs false
namespace Go.Proofs.YtckkmmdibgoajaaGreat
open Go.RowKit
theorem refSplit_any (n : Int) (w : World) (hn : in64 n) : Calls Tryz.prog 38 #[.int .i64 n] w (Calm w (.int .i64 (splitI n))) := by
  have HC := Lib.hid (refNeed_any n 0 0 0 0 12 w ⟨hn, in0, in0⟩ ⟨by decide, by decide⟩ (fun _ _ _ => ⟨by decide, by decide⟩) ⟨by decide, by decide⟩)
  clear hn
  go_enter Tryz.func38, Tryz.ntmps38
  go_wp2_with fail
  refine HC.out.mono ?_
  rintro e w1 ⟨rfl, hb1⟩
  have HB := Lib.hid hb1
  clear hb1
  go_wp2_with fail
  go_ret
  exact ⟨rfl, HB.out⟩
end Go.Proofs.YtckkmmdibgoajaaGreat
set_option linter.unusedVariables false
set_option linter.unusedSimpArgs false
namespace Go.Proofs.YtckkmmdibgoajaaGreat
open Go.RowKit
set_option maxHeartbeats 2000000 in
set_option maxRecDepth 100000 in
theorem head_any {w : World} {a : Option Addr} {n c : Nat} {l : List En} (m : Int) (h : EnsAt w a l) (hn : l.length = n) (hl : n ≤ 1000000) :
    Calls Tryz.prog 39 #[.slice a n c, .int .i64 m] w (MadeEns w (l.take m.toNat)) := by
  have HE := Lib.hid h
  have HN := Lib.hid hn
  have hni : (n : Int) ≤ 1000000 := by omega
  have HL := Lib.hid hl
  have HLEN : Hid (∀ j, (l.take j).length ≤ 1000000) := fun j => by
    have h2 := List.length_take_le' j l
    show (l.take j).length ≤ _
    omega
  have HLENB : Hid (∀ j, (l.take j).length ≤ 100000000) := fun j => Nat.le_trans (HLEN.out j) (by decide)
  have HR0 : Hid (∃ j : Nat, (Value.int .i64 0) = .int .i64 (j : Int) ∧ j ≤ n ∧ ((j : Int) ≤ m ∨ j = 0) ∧ ESt w.heap.size w (l.take j) (.slice none 0 0) w) := ⟨0, rfl, Nat.zero_le _, .inr rfl, by simp; exact ESt.start w rfl⟩
  clear h hn hl
  go_enter Tryz.func39, Tryz.ntmps39
  go_wp2_with fail
  go_loopw [5, 6] (fun x i wr => ∃ j : Nat, i = .int .i64 (j : Int) ∧ j ≤ n ∧ ((j : Int) ≤ m ∨ j = 0) ∧ ESt w.heap.size w (l.take j) x wr) (fun _ i _ => n - (intOf i).toNat)
  case atStart => exact HR0.out
  case round =>
    clear HR0
    obtain ⟨j, rfl, hj, hjm, hst⟩ := hrel
    have HST := Lib.hid hst
    have hj0 : (0 : Int) ≤ (j : Int) := by omega
    have HM := Lib.hid hjm
    obtain ⟨xa, xc, rfl⟩ := hst.val
    clear hst
    by_cases hlt : j < n
    · have hji : (j : Int) < (n : Int) := by omega
      by_cases hm : (j : Int) < m
      · have hmd : decide ((j : Int) < m) = true := decide_eq_true hm
        obtain ⟨e, he⟩ : ∃ e, l[j]? = some e := ⟨_, List.getElem?_eq_getElem (by have := HN.out; omega)⟩
        obtain ⟨b, off, rfl, hb, c0, c1⟩ := (HE.out.below HST.out.below).at he
        have HY : Hid (l.take (j + 1) = l.take j ++ [e]) := by
          obtain ⟨h1, h2⟩ := List.getElem?_eq_some_iff.1 he
          show _ = _
          rw [List.take_succ_eq_append_getElem h1, h2]
        have HLT : Hid (j < n ∧ (j : Int) < m) := ⟨hlt, hm⟩
        clear he hb hlt hj hjm
        go_wp2_with (at_builtin; refine wpList_append_en rfl (.tmp 18) (.tmp 23) rfl (HST.out.from (below_newL _ _) rfl) rfl rfl e wr.heap.size rfl (cell_newE _ _ _) (HLENB.out j) ?_; intro v5 w5 hc5)
        exact ⟨⟨j + 1, by go_num, by have := HLT.out; omega, .inl (by have := HLT.out; omega), by rw [HY.out]; exact hc5⟩, by have := HLT.out; simp [intOf]; omega⟩
      · have hmd : decide ((j : Int) < m) = false := decide_eq_false hm
        have HK : Hid (l.take j = l.take m.toNat) := by
          show _ = _
          rw [show m.toNat = j by omega]
        clear hj hlt hm hjm
        go_wp2_with fail
        go_ret
        rw [← HK.out]
        first
        | exact HST.out.made
        | (have := HST.out.made; simp only [List.length_take] at this; exact this)
    · have hji : ¬ (j : Int) < (n : Int) := by omega
      have HK : Hid (l.take j = l.take m.toNat) := by
        show _ = _
        have h1 := HN.out
        rcases hjm with h | h
        · rw [List.take_of_length_le (by omega), List.take_of_length_le (by omega)]
        · have h3 : l = [] := List.eq_nil_of_length_eq_zero (by omega)
          rw [h3]; simp
      clear hj hlt hjm
      go_wp2_with fail
      go_ret
      rw [← HK.out]
      first
        | exact HST.out.made
        | (have := HST.out.made; simp only [List.length_take] at this; exact this)
end Go.Proofs.YtckkmmdibgoajaaGreat
set_option linter.unusedVariables false
namespace Go.Proofs.YtckkmmdibgoajaaGreat
end Go.Proofs.YtckkmmdibgoajaaGreat
set_option linter.unusedVariables false
set_option linter.unusedSimpArgs false
namespace Go.Proofs.YtckkmmdibgoajaaGreat
open Go.RowKit
end Go.Proofs.YtckkmmdibgoajaaGreat
set_option linter.unusedVariables false
set_option linter.unusedSimpArgs false
namespace Go.Proofs.YtckkmmdibgoajaaGreat
open Go.RowKit
theorem split_le {n : Int} (h0 : 0 ≤ n) (h1 : n ≤ 151) : splitI n ≤ 192 ∧ 0 ≤ splitI n := by
  have h3 := xhI_max (n := n + 0 + 0 + 0) (by omega) (by omega)
  unfold splitI needI
  have hv : vld n ∧ vld 0 ∧ vld 0 := by unfold vld; omega
  rw [if_pos hv]
  omega
theorem low_up {l : List En} (h : Up l) (k : Int) : Up (lowE l k) := List.Pairwise.filter _ h
theorem high_up {l : List En} (h : Up l) (k : Int) : Up (highE l k) := List.Pairwise.filter _ h
theorem low_mem {l : List En} {k : Int} {y : En} (h : y ∈ lowE l k) : y ∈ l := (List.mem_filter.1 h).1
theorem high_mem {l : List En} {k : Int} {y : En} (h : y ∈ highE l k) : y ∈ l := (List.mem_filter.1 h).1
theorem low_wf {l : List En} (h : WfL l) (k : Int) : WfL (lowE l k) := fun y hy => h y (low_mem hy)
theorem high_wf {l : List En} (h : WfL l) (k : Int) : WfL (highE l k) := fun y hy => h y (high_mem hy)
theorem filter_none {l : List En} {f : En → Bool} (h : ∀ y ∈ l, f y = false) : l.filter f = [] := List.filter_eq_nil_iff.2 fun y hy => by rw [h y hy]; decide
theorem Got2.snd {A B : Ar} {held : Nat → Nat} {j k : Nat} {t u : Tr} {l m : List En} (h : Got2 A held B j t l k u m) (hu : Up m) : TreeAt B k u m := ⟨⟨_, h.inv⟩, h.agg, h.sub2, h.bal2, h.ents2, hu⟩
end Go.Proofs.YtckkmmdibgoajaaGreat
set_option linter.unusedVariables false
set_option linter.unusedSimpArgs false
namespace Go.Proofs.YtckkmmdibgoajaaGreat
open Go.RowKit
end Go.Proofs.YtckkmmdibgoajaaGreat
set_option linter.unusedVariables false
set_option linter.unusedSimpArgs false
namespace Go.Proofs.YtckkmmdibgoajaaGreat
open Go.RowKit
theorem take_low : ∀ {l : List En} (k : Int), Up l → l.take (rankE l k) = lowE l k
  | [], k, _ => rfl
  | x :: t, k, hu => by
    have hu' := List.pairwise_cons.1 hu
    have hc : rankE (x :: t) k = rankE t k + (if x.key < k then 1 else 0) := by
      unfold rankE
      rw [List.countP_cons]
      by_cases h : x.key < k <;> simp [h]
    by_cases hx : x.key < k
    · rw [hc, if_pos hx, List.take_succ_cons, take_low k hu'.2]
      unfold lowE
      rw [List.filter_cons_of_pos (by simp; exact hx)]
    · have h0 : rankE t k = 0 := by
        unfold rankE
        rw [List.countP_eq_zero]
        intro y hy
        have := hu'.1 y hy
        simp; omega
      rw [hc, if_neg hx, h0]
      have : lowE (x :: t) k = [] := filter_none fun y hy => by
        rcases List.mem_cons.1 hy with rfl | hy
        · exact decide_eq_false hx
        · have := hu'.1 y hy; exact decide_eq_false (by omega)
      rw [this]; rfl
theorem out_high {l : List En} (hw : WfL l) (k : Int) : outE l (-9223372036854775808) k = highE l k := by
  unfold outE highE
  refine List.filter_congr fun y hy => ?_
  have := (hw y hy).1.1
  have e : (y.key < -9223372036854775808 ∨ k < y.key) ↔ k < y.key := ⟨fun h => h.elim (fun h => by omega) id, .inr⟩
  rw [decide_eq_decide]
  exact e
theorem kept_keptS {A B : Ar} {n : Nat} (hk : A.Kept B) (hg : ∀ i, A.σ.on i = true → B.σ.gen i = A.σ.gen i) : KeptS n A.sl B.sl := fun x _ hx => ⟨hk.on _ hx, hk.nd _ hx, hg _ hx⟩
set_option maxHeartbeats 16000000 in
set_option maxRecDepth 100000 in
theorem splits_walk (I : AImpl) (hchk : CheckSpec) (K : JoinImpl I) {a : Option Addr} {n c : Nat} {raw : List En} {tilt key at_ free : Int} {w : World} (hE : EnsAt w a raw) (hn : raw.length = n) (hnm : n ≤ 9223372036854775807) (ht0 : 0 ≤ tilt) (ht1 : tilt < 18446744073709551616) (hkey : i64R key) (hat : i64R at_) (hf0 : 0 ≤ free) (hf1 : free < 65536) :
    Calls Tryz.prog 7 #[.slice a n c, .int .u64 tilt, .int .i64 key, .int .i64 at_, .int .u16 free] w (Calm w (.bool true)) := by
  have HK := Lib.hid K
  have HCHK := Lib.hid hchk
  have HAT := Lib.hid hat
  have HKEY := Lib.hid hkey
  have HF : Hid (0 ≤ free ∧ free < 65536) := ⟨hf0, hf1⟩
  have HWF : Hid (∀ y ∈ listE raw 150, i64R y.key ∧ i64R y.val) := fun y hy => hE.wf y (listE_mem hy)
  have HL := Lib.hid (list_any (c := c) (k := 150) hE hn hnm (by decide))
  have HT : Hid (0 ≤ tilt ∧ tilt < 18446744073709551616) := ⟨ht0, ht1⟩
  have HUP := Lib.hid (listE_up raw 150)
  have HLEN := Lib.hid (listE_len raw 150)
  clear K hchk hE hn hnm ht0 ht1 hat hkey hf0 hf1
  go_enter Tryz.func7, Tryz.ntmps7
  go_wp2_with fail
  refine HL.out.mono ?_
  rintro e w1 ⟨a1, c1, rfl, hr1, hb1⟩
  have HR1 := Lib.hid hr1
  have HB1 := Lib.hid hb1
  clear hr1 hb1 HL
  generalize listE raw 150 = l at HUP HLEN HR1 HWF ⊢
  obtain ⟨L, hL⟩ : ∃ L, l.length = L := ⟨_, rfl⟩
  rw [hL] at HLEN HR1 ⊢
  have HLL := Lib.hid hL
  have hLi : (L : Int) ≤ 150 := by have := HLEN.out; omega
  have HE1 := Lib.hid (ens_row hL HR1.out HWF.out)
  have HC1 := Lib.hid (row_caps HR1.out)
  clear hL
  have hspl := split_le (n := (L : Int)) (by omega) (by omega)
  obtain ⟨SP, hSP⟩ : ∃ SP, splitI (L : Int) = SP := ⟨_, rfl⟩
  rw [hSP] at hspl
  have HSPL : Hid (splitI (L : Int) = SP ∧ 0 ≤ SP ∧ SP ≤ 192) := ⟨hSP, hspl.2, hspl.1⟩
  clear hspl hSP
  have HRS : Hid (∀ wx, Calls Tryz.prog 38 #[.int .i64 (L : Int)] wx (Calm wx (.int .i64 SP))) := fun wx => by rw [← HSPL.out.1]; exact refSplit_any _ _ ⟨by omega, by omega⟩
  go_wp2_with fail
  refine (HRS.out w1).mono ?_
  rintro e w2 ⟨rfl, hb2⟩
  have HB2 := Lib.hid hb2
  clear hb2
  go_wp2_with fail
  refine (spare13_any free SP w2 HF.out.1 HF.out.2 HSPL.out.2.1 (by have := HSPL.out; omega)).mono ?_
  rintro e w2' ⟨sp, rfl, hsp, rfl⟩
  have hspi : (sp : Int) ≤ 200 := by have := HSPL.out; omega
  have hsp0 : (0 : Int) ≤ (sp : Int) := by omega
  have HSP1 : Hid ((1 : Int) + (sp : Int) = ((sp + 1 : Nat) : Int)) := by show _ = _; omega
  clear hsp
  go_wp2_with fail
  rw [HSP1.out]
  refine (grow_any I (sp := sp + 1) (m := L + (sp + 1)) (HE1.out.below HB2.out) HLL.out HC1.out.1 HC1.out.2 rfl (by omega) (by have := HLEN.out; omega) HT.out.1 HT.out.2).mono ?_
  rintro e w3 ⟨p, A, ri, t, F, rfl, hg⟩
  obtain ⟨pa, rfl⟩ := I.ptr hg.is
  have HTR := Lib.hid (hg.planted.tree HUP.out)
  have HPL := Lib.hid hg.planted
  have HS3 := Lib.hid (Scn.init hg (HB1.out.trans (HB2.out.mono HB1.out.size)) (row_below HR1.out HB2.out))
  have hfr : A.σ.free.length = sp + 1 := by
    have h := hg.planted.free
    rw [HLL.out] at h
    have h2 : (Ar.init (L + (sp + 1))).σ.free.length = L + (sp + 1) := by show (List.range' 1 (L + (sp + 1))).length = _; simp
    omega
  have HFR : Hid (A.σ.free.length = sp + 1 ∧ A.σ.cap = L + (sp + 1) ∧ sp ≤ 200) := ⟨hfr, hg.planted.kept.cap, by omega⟩
  have HPI : Hid (pls (fun _ => 0) ri = hof [ri]) := by show _ = _; have := hof_pls [] ri; rw [hof_nil] at this; exact this
  have HHM : Hid (∀ j, pls (fun _ => 0) ri j ≤ 1048000) := fun j => by rw [pls_at]; split <;> omega
  have HRI : Hid (ri < 4294967296) := HTR.out.idx
  clear hg HR1 HE1 HC1 HT hfr HB1 HB2 HSP1 hspi hsp0
  go_wp2_with fail
  refine (awake13_any I HK.out w3).mono ?_
  rintro e w4 ⟨rfl, hb4⟩
  have HS4 := Lib.hid (HS3.out.calm hb4)
  clear hb4 HS3
  go_upto_region 5 with fail
  go_cut [55] from 48 to 54 (fun s55 wx => ∃ bb : Bool, s55 = .bool bb ∧ (bb = true → 0 < L) ∧ w4 = wx)
  case first =>
    by_cases hL0 : L = 0
    · have hl0 : (L : Int) = 0 := by omega
      have hd : decide ((L : Int) > 0) = false := decide_eq_false (by omega)
      have hd2 : decide ((0 : Int) < (L : Int)) = false := decide_eq_false (by omega)
      have hd3 : ¬ 0 < L := by omega
      clear hL0
      go_wp2_with fail
      go_meet
      exact ⟨false, rfl, (fun h => by cases h), rfl⟩
    · have hd : decide ((L : Int) > 0) = true := decide_eq_true (by omega)
      have hd2 : decide ((0 : Int) < (L : Int)) = true := decide_eq_true (by omega)
      have hd3 : 0 < L := by omega
      obtain ⟨bb, hbb⟩ : ∃ bb : Bool, (at_.tmod 3 != 0) = bb := ⟨_, rfl⟩
      clear hL0
      go_wp2_with fail
      go_meet
      exact ⟨bb, by rw [← hbb], fun _ => hd3, rfl⟩
  case' rest =>
    obtain ⟨bb, rfl, hbb, rfl⟩ := hcut
    have HBBL := Lib.hid hbb
    clear hbb
    go_upto_if 55 with fail
    go_cut [2] from 56 to 63 (fun s2 wx => ∃ k : Int, s2 = .int .i64 k ∧ i64R k ∧ w4 = wx)
    case first =>
      cases bb with
      | false =>
        go_wp2_with fail
        go_meet
        exact ⟨key, rfl, HKEY.out, rfl⟩
      | true =>
        have hL0 := HBBL.out rfl
        have hli : (0 : Int) < (L : Int) := by omega
        have hx6 := Int.emod_nonneg at_ (b := (L : Int)) (by omega)
        have hx7 := Int.emod_lt_of_pos at_ (b := (L : Int)) (by omega)
        obtain ⟨j, hj⟩ := Int.eq_ofNat_of_zero_le hx6
        have hjL : j < L := by omega
        have HMX : Hid (∀ wx, Calls Tryz.prog 13 #[.int .i64 at_, .int .i64 (L : Int)] wx (fun e w' => e = .returned (.int .i64 (j : Int)) ∧ w' = wx)) := fun wx => (mod_any at_ L wx HAT.out.1 HAT.out.2 (by omega) (by omega)).mono fun e w' ⟨h1, h2⟩ => ⟨by rw [h1, hj], h2.symm⟩
        obtain ⟨e, he⟩ : ∃ e, l[j]? = some e := ⟨_, List.getElem?_eq_getElem (by have := HLL.out; omega)⟩
        have HEW := Lib.hid (HWF.out e (List.mem_of_getElem? he))
        obtain ⟨b, off, rfl, hb, c0, -⟩ := (ens_row (w := w4) (B := w.heap.size) (c := c1) HLL.out (HS4.out.rows _ (List.mem_singleton.2 rfl)) HWF.out).cell j e he
        have hji : (j : Int) < (L : Int) := by omega
        have hj0 : (0 : Int) ≤ (j : Int) := by omega
        clear he hb hj hjL hx6 hx7 hL0
        go_wp2_with (go_at_call 13; refine (HMX.out _).mono ?_; rintro e wy ⟨rfl, rfl⟩)
        go_meet
        exact ⟨e.key, rfl, HEW.out.1, rfl⟩
    case' rest =>
      obtain ⟨k, rfl, hk, rfl⟩ := hcut
      have HKK := Lib.hid hk
      clear hk HBBL HKEY HAT
      have HENS : Hid (∀ wx, Below w4.heap.size w4 wx → EnsAt wx a1 l) := fun wx hb => ens_row (w := wx) (B := w.heap.size) (c := c1) HLL.out ((HS4.out.calm hb).rows _ (List.mem_singleton.2 rfl)) HWF.out
      go_wp2_with fail
      refine (rank_any k (HENS.out w4 (Below.refl _ _)) HLL.out (by have := HLEN.out; omega)).mono ?_
      rintro e w5 ⟨rfl, rfl⟩
      have hhead : l.take ((rankE l k : Int)).toNat = lowE l k := by rw [Int.toNat_natCast, take_low k HUP.out]
      have HHD := Lib.hid hhead
      have HRK : Hid (rankE l k ≤ L) := by show _ ≤ _; rw [← HLL.out]; exact rankE_le l k
      clear hhead
      go_wp2_with fail
      refine (head_any (rankE l k : Int) (HENS.out _ (Below.refl _ _)) HLL.out (by have := HLEN.out; omega)).mono ?_
      rw [HHD.out]
      rintro e w6 ⟨a2, c2, rfl, hr6, hb6⟩
      have HS6 := Lib.hid (HS4.out.row hb6 hr6)
      have HB6 := Lib.hid hb6
      obtain ⟨P, hP⟩ : ∃ P, (lowE l k).length = P := ⟨_, rfl⟩
      have HPP : Hid ((lowE l k).length = P ∧ P ≤ L) := ⟨hP, by rw [← HLL.out, ← hP]; exact List.length_filter_le _ _⟩
      rw [hP] at HS6 ⊢
      clear hr6 hb6 hP HHD HRK
      go_wp2_with fail
      refine (outside_any (-9223372036854775808) k (HENS.out w6 HB6.out) HLL.out (by have := HLEN.out; omega)).mono ?_
      rw [out_high HWF.out k]
      rintro e w7 ⟨a3, c3, rfl, hr7, hb7⟩
      have HS7 := Lib.hid (HS6.out.row hb7 hr7)
      have HB7 := Lib.hid (HB6.out.trans (hb7.mono HB6.out.size))
      obtain ⟨Q, hQ⟩ : ∃ Q, (highE l k).length = Q := ⟨_, rfl⟩
      have HQQ : Hid ((highE l k).length = Q ∧ Q ≤ L) := ⟨hQ, by rw [← HLL.out, ← hQ]; exact List.length_filter_le _ _⟩
      rw [hQ] at HS7 ⊢
      clear hr7 hb7 hQ HS6 HB6
      go_wp2_with fail
      refine (get_any k (HENS.out w7 HB7.out) HLL.out (by have := HLEN.out; omega)).mono ?_
      rintro e w8 ⟨rfl, rfl⟩
      obtain ⟨V, hV⟩ : ∃ V, (getE l k).elim (0 : Int) (·.val) = V := ⟨_, rfl⟩
      obtain ⟨Z, hZ⟩ : ∃ Z, (getE l k).isSome = Z := ⟨_, rfl⟩
      rw [hV, hZ]
      have HVZ : Hid ((getE l k).elim (0 : Int) (·.val) = V ∧ (getE l k).isSome = Z) := ⟨hV, hZ⟩
      clear hV hZ HB7 HENS
      go_wp2_with fail
      refine HS7.out.dump.mono ?_
      rintro e w9 ⟨da, dc, db, dd, rfl, hs9, -⟩
      obtain ⟨N, hN⟩ : ∃ N, A.σ.cap = N := ⟨_, rfl⟩
      obtain ⟨M, hM⟩ : ∃ M, A.σ.free.length = M := ⟨_, rfl⟩
      rw [hN, hM] at hs9 ⊢
      have HNM : Hid (A.σ.cap = N ∧ A.σ.free.length = M ∧ (N : Int) ≤ 65536 ∧ (M : Int) ≤ 201 ∧ M = sp + 1) := ⟨hN, hM, by have := HFR.out; have := HLEN.out; omega, by have := HFR.out; omega, by have := HFR.out; omega⟩
      have HS9 := Lib.hid hs9
      clear hs9 hN hM HS7
      go_wp2_with fail
      refine HS9.out.reads.mono ?_
      rintro e w10 ⟨rfl, hs10⟩
      have hs11 := hs10.box #[.slice da N dc, .slice db M dd] 41
      clear hs10 HS9
      go_upto_region 10 with fail
      generalize w10.alloc (.cells #[.slice da N dc, .slice db M dd] 41) = w11 at hs11 ⊢
      generalize w10.heap.size = q at hs11 ⊢
      obtain ⟨rs, hrs⟩ : ∃ rs : List Row, rs = [⟨30, 1, .slice db M dd, M, u32s A.σ.free⟩, ⟨90, 11, .slice da N dc, N, slotsV A⟩, ⟨25, 2, .slice a3 Q c3, Q, ensV (highE l k)⟩, ⟨25, 2, .slice a2 P c2, P, ensV (lowE l k)⟩, ⟨25, 2, .slice a1 L c1, L, ensV l⟩] := ⟨_, rfl⟩
      rw [← hrs] at hs11
      have HR0 : Hid ((⟨30, 1, .slice db M dd, M, u32s A.σ.free⟩ : Row) ∈ rs) := by show _ ∈ _; rw [hrs]; simp
      have HR1 : Hid ((⟨90, 11, .slice da N dc, N, slotsV A⟩ : Row) ∈ rs) := by show _ ∈ _; rw [hrs]; simp
      have HR2 : Hid ((⟨25, 2, .slice a3 Q c3, Q, ensV (highE l k)⟩ : Row) ∈ rs) := by show _ ∈ _; rw [hrs]; simp
      have HR3 : Hid ((⟨25, 2, .slice a2 P c2, P, ensV (lowE l k)⟩ : Row) ∈ rs) := by show _ ∈ _; rw [hrs]; simp
      have HS11 := Lib.hid hs11
      clear hs11 hrs
      have HCEL : Hid (∀ {wx : World} {C : Ar} {rdx : Int} {rs' : List Row} {bs' : List (Nat × Obj)}, Scn I w.heap.size w wx (.pointer (some pa)) C rdx rs' (bs' ++ [(q, .cells #[.slice da N dc, .slice db M dd] 41 (0, 0))]) → wx.cell? ⟨q, 0, none⟩ = some (.slice da N dc) ∧ wx.cell? ⟨q, 1, none⟩ = some (.slice db M dd)) := fun {wx C rdx rs' bs'} h => two_cells (h.boxes (q, .cells #[.slice da N dc, .slice db M dd] 41 (0, 0)) (by simp)).2
      go_wp2_with fail
      refine (HS11.out.mut fun F hI => HK.out.split k w11 hI HPL.out.inv HHM.out HTR.out HWF.out (by decide) (by decide) HKK.out).mono ?_
      rintro e w12 ⟨B, rd, ⟨h40, h41, hq⟩, hs12⟩
      have HS12 := Lib.hid hs12
      obtain ⟨H, hH⟩ : ∃ H, (xh L : Int) = H := ⟨_, rfl⟩
      have hH2 := (xh_spec (n := L) (by have := HLEN.out; omega)).2.1
      have hHb : 0 ≤ H ∧ H ≤ 80 := ⟨by omega, by omega⟩
      have hbd : splitBd l.length = 120 * (H + 2) := by unfold splitBd; rw [HLL.out, hH]
      have HRD : Hid (0 ≤ rd ∧ rd ≤ 0 + 120 * (H + 2) ∧ rd ≤ 10000 ∧ 120 * (H + 2) ≤ 10000) := ⟨h40, by omega, by omega, by omega⟩
      have HHI : Hid (xhI (L : Int) = H) := by show _ = _; rw [xhI_nat (by have := HLEN.out; omega)]; exact hH
      have HHT : Hid (∀ wx, Calls Tryz.prog 19 #[.int .i64 (L : Int)] wx (Calm wx (.int .i64 H))) := fun wx => by rw [← HHI.out]; exact height_kit _ wx (by omega) (by have := HLEN.out; omega)
      obtain ⟨hH0, hH80⟩ := hHb
      clear hs12 HS11 h40 h41 hH hH2 hbd
      rcases hq with ⟨hw, x, y, tx, ty, rfl, hxy, hx, hy, hfree⟩ | ⟨hw, hfull, rfl, rfl⟩ | ⟨hw, hroom, x, y, tx, ty, rfl, hxy⟩
      · have hz0 : getE l k = none := hw.1
        have HWH : Hid (P = 0 ∨ Q = 0) := hw.2.imp (fun h => by rw [← HPP.out.1, h]; rfl) (fun h => by rw [← HQQ.out.1, h]; rfl)
        have HXR : Hid ((0 < P → x = ri) ∧ (0 < Q → y = ri)) := ⟨fun h => hx fun e => by have := HPP.out.1; rw [e] at this; simp at this; omega, fun h => hy fun e => by have := HQQ.out.1; rw [e] at this; simp at this; omega⟩
        obtain ⟨rfl, rfl⟩ : V = 0 ∧ Z = false := by rw [← HVZ.out.1, ← HVZ.out.2, hz0]; exact ⟨rfl, rfl⟩
        have HFB : Hid (B.σ.free.length = M) := hfree.trans HNM.out.2.1
        have HTX := Lib.hid (hxy.fst (low_up HUP.out k))
        have HTY := Lib.hid (hxy.snd (high_up HUP.out k))
        have HINV : Hid (B.Inv [] (hof [ri, x, y])) := by
          have := hxy.inv
          rw [HPI.out, hof_pls, hof_pls] at this
          exact this
        have HBG : Hid (B.Agg ∧ B.σ.cap = N ∧ KeptS N A.sl B.sl) := ⟨hxy.agg, hxy.kept.cap.trans HNM.out.1, kept_keptS hxy.kept hxy.gen⟩
        have HON : Hid (∀ z ∈ [ri, x, y], z = 0 ∨ B.σ.on z = true) := fun z hz => by
          simp at hz
          rcases hz with rfl | rfl | rfl
          · rcases HTR.out.sub.idx with h | h
            · exact .inl h
            · exact .inr (hxy.kept.on _ h)
          · exact hxy.sub.idx
          · exact hxy.sub2.idx
        have HXI : Hid (x < 4294967296 ∧ y < 4294967296) := ⟨HTX.out.idx, HTY.out.idx⟩
        clear hw hx hy hz0 hxy hfree
        go_wp2_with fail
        refine (HHT.out w12).mono ?_
        rintro e w13 ⟨rfl, hb13⟩
        have HS13 := Lib.hid (HS12.out.calm hb13)
        clear hb13 HS12
        go_wp2_with fail
        refine (within_any (most := 120 * (H + 2)) HS13.out.mr (Int.le_refl _) HRD.out.1 HRD.out.2.1 (by have := HRD.out; omega) (by have := HRD.out; omega)).mono ?_
        rintro e w14 ⟨rfl, hb14⟩
        have HS14 := Lib.hid (HS13.out.calm hb14)
        clear hb14 HS13
        go_upto_region 13 with fail
        go_cut [26] from 101 to 112 (fun s wx => s = .bool true ∧ w14 = wx)
        case first =>
          have hPi : (0 : Int) ≤ (P : Int) := by omega
          have hQi : (0 : Int) ≤ (Q : Int) := by omega
          rcases HWH.out with hp | hp
          · have p1 : ((P : Int) == 0) = true := by simp; omega
            clear hp
            go_wp2_with fail
            go_meet
            exact ⟨rfl, rfl⟩
          · have p3 : ((Q : Int) == 0) = true := by simp; omega
            clear hp
            by_cases hp : P = 0
            · have p1 : ((P : Int) == 0) = true := by simp; omega
              clear hp
              go_wp2_with fail
              go_meet
              exact ⟨rfl, rfl⟩
            · have p1 : ((P : Int) == 0) = false := by simp; omega
              clear hp
              go_wp2_with fail
              go_meet
              exact ⟨rfl, rfl⟩
        case' rest =>
          obtain ⟨rfl, rfl⟩ := hcut
          obtain ⟨q0, q1⟩ := HCEL.out (bs' := []) HS14.out
          go_upto_region 14 with fail
          go_quiet (fail)
          rename Nat => d15
          have HS15 : Hid (Scn I w.heap.size w (w14.drewN d15) (.pointer (some pa)) B rd rs [(q, .cells #[.slice da N dc, .slice db M dd] 41 (0, 0))]) := HS14.out.calm (below_drewN (Below.refl _ _) d15)
          generalize w14.drewN d15 = w15 at HS15 ⊢
          clear q0 q1 HS14
          go_wp2_with fail
          refine (tree13_any HS15.out HINV.out HTX.out (ens_row (w := w15) (B := w.heap.size) HPP.out.1 (HS15.out.rows _ HR3.out) (low_wf HWF.out k)) HPP.out.1 (by have := HPP.out; have := HLEN.out; omega)).mono ?_
          rintro e w16 ⟨rfl, hb16⟩
          have HS16 := Lib.hid (HS15.out.calm hb16)
          clear hb16 HS15
          go_wp2_with fail
          refine (tree13_any HS16.out HINV.out HTY.out (ens_row (w := w16) (B := w.heap.size) HQQ.out.1 (HS16.out.rows _ HR2.out) (high_wf HWF.out k)) HQQ.out.1 (by have := HQQ.out; have := HLEN.out; omega)).mono ?_
          rintro e w17 ⟨rfl, hb17⟩
          have HS17 := Lib.hid (HS16.out.calm hb17)
          clear hb17 HS16
          go_upto_region 18 with fail
          have HFREE : Hid (∀ dq, Calls Tryz.prog 20 #[.pointer (some pa)] (w17.drewN dq) (Quiet (w17.drewN dq) (.int .i64 (M : Int)))) := fun dq => by
            obtain ⟨F1, f1, f2, f3⟩ := (HS17.out.calm (below_drewN (Below.refl _ _) dq)).mr.has
            rw [← HFB.out]
            exact I.freeN _ _ _ _ _ f1
          obtain ⟨q0, q1⟩ := HCEL.out (bs' := []) HS17.out
          go_cut [202] from 174 to 202 (fun s wx => s = .bool false ∧ ∃ dq, wx = w17.drewN dq)
          case first =>
            have hmm : ((M : Int) != (M : Int)) = false := by simp
            have hrr : ((ri : Int) != (ri : Int)) = false := by simp
            rcases Nat.eq_zero_or_pos P with hp | hp
            · have p1 : decide ((P : Int) > 0) = false := decide_eq_false (by omega)
              have p2 : decide ((0 : Int) < (P : Int)) = false := decide_eq_false (by omega)
              have p3 : ¬ 0 < P := by omega
              rcases Nat.eq_zero_or_pos Q with hq | hq
              · have r1 : decide ((Q : Int) > 0) = false := decide_eq_false (by omega)
                have r2 : decide ((0 : Int) < (Q : Int)) = false := decide_eq_false (by omega)
                have r3 : ¬ 0 < Q := by omega
                clear hp hq
                go_quiet ((go_at_call 20; exact Calls.quiet_of (HFREE.out _)))
                go_wp2_with fail
                go_meet
                exact ⟨rfl, _, rfl⟩
              · have r1 : decide ((Q : Int) > 0) = true := decide_eq_true (by omega)
                have r2 : decide ((0 : Int) < (Q : Int)) = true := decide_eq_true (by omega)
                have r3 : 0 < Q := by omega
                have hyr : ((y : Int) != (ri : Int)) = false := by rw [HXR.out.2 hq]; simp
                clear hp hq
                go_quiet ((go_at_call 20; exact Calls.quiet_of (HFREE.out _)))
                go_wp2_with fail
                go_meet
                exact ⟨rfl, _, rfl⟩
            · have p1 : decide ((P : Int) > 0) = true := decide_eq_true (by omega)
              have p2 : decide ((0 : Int) < (P : Int)) = true := decide_eq_true (by omega)
              have p3 : 0 < P := hp
              have hxr : ((x : Int) != (ri : Int)) = false := by rw [HXR.out.1 hp]; simp
              have hq : Q = 0 := HWH.out.resolve_left (by omega)
              have r1 : decide ((Q : Int) > 0) = false := decide_eq_false (by omega)
              have r2 : decide ((0 : Int) < (Q : Int)) = false := decide_eq_false (by omega)
              have r3 : ¬ 0 < Q := by omega
              clear hp hq
              go_quiet ((go_at_call 20; exact Calls.quiet_of (HFREE.out _)))
              go_wp2_with fail
              go_meet
              exact ⟨rfl, _, rfl⟩
          case' rest =>
            obtain ⟨rfl, d18, rfl⟩ := hcut
            have HS18 : Hid (Scn I w.heap.size w (w17.drewN d18) (.pointer (some pa)) B rd rs [(q, .cells #[.slice da N dc, .slice db M dd] 41 (0, 0))]) := HS17.out.calm (below_drewN (Below.refl _ _) d18)
            generalize w17.drewN d18 = w18 at HS18 ⊢
            clear q0 q1 HS17 HFREE
            go_upto_region 20 with fail
            obtain ⟨q0, q1⟩ := HCEL.out (bs' := []) HS18.out
            have hSd := HS18.out.calm (Below.refl _ _).drew
            go_region_held3 (fun w' => w'.cell? ⟨q, 0, none⟩ = some (.slice da N dc) ∧ w'.cell? ⟨q, 1, none⟩ = some (.slice db M dd)) (go_keep) (first
              | (go_at_call 15; refine hSd.dump.mono ?_; rintro e wC ⟨ea, ec, eb, ed, rfl, hsC, -⟩; rw [HBG.out.2.1] at hsC ⊢; obtain ⟨q0, q1⟩ := HCEL.out (bs' := []) hsC)
              | (go_at_call 25; refine (kept_any (hsC.slots_of (c := dc) HPL.out.inv HNM.out.1 (by simp [HR1.out])) (hsC.slots_of (c := ec) HINV.out HBG.out.2.1 (by simp)) HBG.out.2.2 (by have := HNM.out; omega)).mono ?_; rintro e wD ⟨rfl, hbD⟩; have hsD := hsC.calm hbD; obtain ⟨q0, q1⟩ := HCEL.out (bs' := []) hsD)
              | (go_at_call 21; refine ((hsD.box _ _).sound HCHK.out HINV.out HBG.out.1 (u3_at _ _ ri x y HRI.out HXI.out.1 HXI.out.2) (L := 3) rfl (by decide) HON.out).mono ?_; rintro e wE ⟨rfl, hbE⟩; have hsE := (hsD.box _ _).calm hbE; obtain ⟨q0, q1⟩ := HCEL.out (bs' := [_]) hsE))
            all_goals (go_wp2_with fail; go_ret; exact ⟨rfl, hsE.below⟩)
      · have HROOM : Hid ((M : Int) < SP) := by show _ < _; rw [← HSPL.out.1, ← HNM.out.2.1, ← HLL.out]; exact hfull
        have HNW : Hid (Z = false → 0 < P ∧ 0 < Q) := fun hz => by
          have h0 : getE l k = none := by
            have := HVZ.out.2
            rw [hz] at this
            cases hg : getE l k with
            | none => rfl
            | some e => rw [hg] at this; cases this
          have h1 : lowE l k ≠ [] := fun e => hw ⟨h0, .inl e⟩
          have h2 : highE l k ≠ [] := fun e => hw ⟨h0, .inr e⟩
          have h3 := List.length_pos_iff.2 h1
          have h4 := List.length_pos_iff.2 h2
          rw [HPP.out.1] at h3
          rw [HQQ.out.1] at h4
          exact ⟨h3, h4⟩
        clear hw hfull
        go_wp2_with fail
        refine (HHT.out w12).mono ?_
        rintro e w13 ⟨rfl, hb13⟩
        have HS13 := Lib.hid (HS12.out.calm hb13)
        clear hb13 HS12
        go_wp2_with fail
        refine (within_any (most := 120 * (H + 2)) HS13.out.mr (Int.le_refl _) HRD.out.1 HRD.out.2.1 (by have := HRD.out; omega) (by have := HRD.out; omega)).mono ?_
        rintro e w14 ⟨rfl, hb14⟩
        have HS14 := Lib.hid (HS13.out.calm hb14)
        clear hb14 HS13
        go_upto_region 13 with fail
        go_cut [26] from 101 to 112 (fun s wx => s = .bool false ∧ w14 = wx)
        case first =>
          cases Z with
          | true =>
            go_wp2_with fail
            go_meet
            exact ⟨rfl, rfl⟩
          | false =>
            have hp := (HNW.out rfl).1
            have hq := (HNW.out rfl).2
            have p1 : ((P : Int) == 0) = false := by simp; omega
            have p3 : ((Q : Int) == 0) = false := by simp; omega
            clear hp hq
            go_wp2_with fail
            go_meet
            exact ⟨rfl, rfl⟩
        case' rest =>
          obtain ⟨rfl, rfl⟩ := hcut
          obtain ⟨q0, q1⟩ := HCEL.out (bs' := []) HS14.out
          have hSd := HS14.out.calm (Below.refl _ _).drew
          have hms : decide ((M : Int) < SP) = true := decide_eq_true (by have := HROOM.out; omega)
          go_upto_region 14 with fail
          go_region_held3 (fun w' => w'.cell? ⟨q, 0, none⟩ = some (.slice da N dc) ∧ w'.cell? ⟨q, 1, none⟩ = some (.slice db M dd)) (go_keep) ((go_at_call 38; refine (HRS.out _).mono ?_; rintro e wA ⟨rfl, hbA⟩; have hSA := hSd.calm hbA; obtain ⟨q0, q1⟩ := HCEL.out (bs' := []) hSA))
          have HS15 := Lib.hid hSA
          clear q0 q1 HS14 hSd hSA hms
          go_upto_region 15 with fail
          clear hbA
          rename World => w15
          obtain ⟨q0, q1⟩ := HCEL.out (bs' := []) HS15.out
          have hSd := HS15.out.calm (Below.refl _ _).drew
          go_region_held3 (fun w' => w'.cell? ⟨q, 0, none⟩ = some (.slice da N dc) ∧ w'.cell? ⟨q, 1, none⟩ = some (.slice db M dd)) (go_keep) (first
            | (go_at_call 15; refine hSd.dump.mono ?_; rintro e wC ⟨ea, ec, eb, ed, rfl, hsC, -⟩; rw [HNM.out.1, HNM.out.2.1] at hsC ⊢; obtain ⟨q0, q1⟩ := HCEL.out (bs' := []) hsC)
            | (go_at_call 22; refine (same_dump B.σ.free HNM.out.2.1 (hsC.slots_of (c := ec) HPL.out.inv HNM.out.1 (by simp)) (hsC.slots_of (c := dc) HPL.out.inv HNM.out.1 (by simp [HR1.out])) (hsC.rows ⟨30, 1, .slice eb M ed, M, u32s B.σ.free⟩ (by simp)) (hsC.rows ⟨30, 1, .slice db M dd, M, u32s B.σ.free⟩ (by simp [HR0.out])) (by have := HNM.out; omega) (by have := HNM.out; omega)).mono ?_; rintro e wD ⟨rfl, hbD⟩; have hsD := hsC.calm hbD; obtain ⟨q0, q1⟩ := HCEL.out (bs' := []) hsD))
          all_goals (go_wp2_with fail; go_ret; exact ⟨rfl, hsD.below⟩)
      · have HROOM : Hid (SP ≤ (M : Int)) := by show _ ≤ _; rw [← HSPL.out.1, ← HNM.out.2.1, ← HLL.out]; exact hroom
        rw [HVZ.out.1, HVZ.out.2]
        have HNW : Hid (Z = false → 0 < P ∧ 0 < Q) := fun hz => by
          have h0 : getE l k = none := by
            have := HVZ.out.2
            rw [hz] at this
            cases hg : getE l k with
            | none => rfl
            | some e => rw [hg] at this; cases this
          have h1 : lowE l k ≠ [] := fun e => hw ⟨h0, .inl e⟩
          have h2 : highE l k ≠ [] := fun e => hw ⟨h0, .inr e⟩
          have h3 := List.length_pos_iff.2 h1
          have h4 := List.length_pos_iff.2 h2
          rw [HPP.out.1] at h3
          rw [HQQ.out.1] at h4
          exact ⟨h3, h4⟩
        have HTX := Lib.hid (hxy.fst (low_up HUP.out k))
        have HTY := Lib.hid (hxy.snd (high_up HUP.out k))
        have HINV : Hid (B.Inv [] (hof [ri, x, y])) := by
          have := hxy.inv
          rw [HPI.out, hof_pls, hof_pls] at this
          exact this
        have HBG : Hid (B.Agg ∧ B.σ.cap = N ∧ KeptS N A.sl B.sl) := ⟨hxy.agg, hxy.kept.cap.trans HNM.out.1, kept_keptS hxy.kept hxy.gen⟩
        have HON : Hid (∀ z ∈ [ri, x, y], z = 0 ∨ B.σ.on z = true) := fun z hz => by
          simp at hz
          rcases hz with rfl | rfl | rfl
          · rcases HTR.out.sub.idx with h | h
            · exact .inl h
            · exact .inr (hxy.kept.on _ h)
          · exact hxy.sub.idx
          · exact hxy.sub2.idx
        have HXI : Hid (x < 4294967296 ∧ y < 4294967296) := ⟨HTX.out.idx, HTY.out.idx⟩
        clear hw hroom hxy
        go_wp2_with fail
        refine (HHT.out w12).mono ?_
        rintro e w13 ⟨rfl, hb13⟩
        have HS13 := Lib.hid (HS12.out.calm hb13)
        clear hb13 HS12
        go_wp2_with fail
        refine (within_any (most := 120 * (H + 2)) HS13.out.mr (Int.le_refl _) HRD.out.1 HRD.out.2.1 (by have := HRD.out; omega) (by have := HRD.out; omega)).mono ?_
        rintro e w14 ⟨rfl, hb14⟩
        have HS14 := Lib.hid (HS13.out.calm hb14)
        clear hb14 HS13
        go_upto_region 13 with fail
        go_cut [26] from 101 to 112 (fun s wx => s = .bool false ∧ w14 = wx)
        case first =>
          cases Z with
          | true =>
            go_wp2_with fail
            go_meet
            exact ⟨rfl, rfl⟩
          | false =>
            have hp := (HNW.out rfl).1
            have hq := (HNW.out rfl).2
            have p1 : ((P : Int) == 0) = false := by simp; omega
            have p3 : ((Q : Int) == 0) = false := by simp; omega
            clear hp hq
            go_wp2_with fail
            go_meet
            exact ⟨rfl, rfl⟩
        case' rest =>
          obtain ⟨rfl, rfl⟩ := hcut
          obtain ⟨q0, q1⟩ := HCEL.out (bs' := []) HS14.out
          have hSd := HS14.out.calm (Below.refl _ _).drew
          have hms : decide ((M : Int) < SP) = false := decide_eq_false (by have := HROOM.out; omega)
          go_upto_region 14 with fail
          go_region_held3 (fun w' => w'.cell? ⟨q, 0, none⟩ = some (.slice da N dc) ∧ w'.cell? ⟨q, 1, none⟩ = some (.slice db M dd)) (go_keep) ((go_at_call 38; refine (HRS.out _).mono ?_; rintro e wA ⟨rfl, hbA⟩; have hSA := hSd.calm hbA; obtain ⟨q0, q1⟩ := HCEL.out (bs' := []) hSA))
          have HS15 := Lib.hid hSA
          clear q0 q1 HS14 hSd hSA hms
          clear hbA
          rename World => w15
          have hvv : (V != V) = false := by simp
          have hzz : (Z != Z) = false := by simp
          go_wp2_with fail
          refine (tree13_any HS15.out HINV.out HTX.out (ens_row (w := w15) (B := w.heap.size) HPP.out.1 (HS15.out.rows _ HR3.out) (low_wf HWF.out k)) HPP.out.1 (by have := HPP.out; have := HLEN.out; omega)).mono ?_
          rintro e w16 ⟨rfl, hb16⟩
          have HS16 := Lib.hid (HS15.out.calm hb16)
          clear hb16 HS15
          go_wp2_with fail
          refine (tree13_any HS16.out HINV.out HTY.out (ens_row (w := w16) (B := w.heap.size) HQQ.out.1 (HS16.out.rows _ HR2.out) (high_wf HWF.out k)) HQQ.out.1 (by have := HQQ.out; have := HLEN.out; omega)).mono ?_
          rintro e w17 ⟨rfl, hb17⟩
          have HS17 := Lib.hid (HS16.out.calm hb17)
          clear hb17 HS16
          go_upto_region 18 with fail
          obtain ⟨q0, q1⟩ := HCEL.out (bs' := []) HS17.out
          go_quiet (fail)
          rename Nat => d18
          have HS18 : Hid (Scn I w.heap.size w (w17.drewN d18) (.pointer (some pa)) B rd rs [(q, .cells #[.slice da N dc, .slice db M dd] 41 (0, 0))]) := HS17.out.calm (below_drewN (Below.refl _ _) d18)
          generalize w17.drewN d18 = w18 at HS18 ⊢
          clear q0 q1 HS17
          go_upto_region 20 with fail
          obtain ⟨q0, q1⟩ := HCEL.out (bs' := []) HS18.out
          have hSd := HS18.out.calm (Below.refl _ _).drew
          go_region_held3 (fun w' => w'.cell? ⟨q, 0, none⟩ = some (.slice da N dc) ∧ w'.cell? ⟨q, 1, none⟩ = some (.slice db M dd)) (go_keep) (first
            | (go_at_call 15; refine hSd.dump.mono ?_; rintro e wC ⟨ea, ec, eb, ed, rfl, hsC, -⟩; rw [HBG.out.2.1] at hsC ⊢; obtain ⟨q0, q1⟩ := HCEL.out (bs' := []) hsC)
            | (go_at_call 25; refine (kept_any (hsC.slots_of (c := dc) HPL.out.inv HNM.out.1 (by simp [HR1.out])) (hsC.slots_of (c := ec) HINV.out HBG.out.2.1 (by simp)) HBG.out.2.2 (by have := HNM.out; omega)).mono ?_; rintro e wD ⟨rfl, hbD⟩; have hsD := hsC.calm hbD; obtain ⟨q0, q1⟩ := HCEL.out (bs' := []) hsD)
            | (go_at_call 21; refine ((hsD.box _ _).sound HCHK.out HINV.out HBG.out.1 (u3_at _ _ ri x y HRI.out HXI.out.1 HXI.out.2) (L := 3) rfl (by decide) HON.out).mono ?_; rintro e wE ⟨rfl, hbE⟩; have hsE := (hsD.box _ _).calm hbE; obtain ⟨q0, q1⟩ := HCEL.out (bs' := [_]) hsE))
          all_goals (go_wp2_with fail; go_ret; exact ⟨rfl, hsE.below⟩)
end Go.Proofs.YtckkmmdibgoajaaGreat
