/- Of the proof of PkBulkBuildsP: RefTreeIs, BkCon, BkAsc. -/
import Derived.Test.YtnimbgcploohiaaPk1
import Derived.Test.YtnimbgcploohiaaPk2
import Derived.Test.YtnimbgcploohiaaPk3
import Derived.Test.YtnimbgcploohiaaPk4
import Derived.Test.YtnimbgcploohiaaPk5
import Derived.Test.YtnimbgcploohiaaPk7
import Derived.Test.YtnimbgcploohiaaPkBulkBuildsP1
import Derived.Test.YtnimbgcploohiaaPkBulkBuildsP2
import Derived.Deep.QuietTactic
set_option linter.unusedVariables false
set_option linter.unusedSimpArgs false
namespace Go.Proofs.Ytnimbgcploohiaa
open Go.RowKit
theorem tree_errI {A : Ar} {i : Nat} {t : Tr} {l : List En} (h : TreeAt A i t l) : errT A t = 0 := by
  have hu : Asc none (t.keys A.nd) := by rw [Tr.ents_keys, h.ents]; exact up_asc l none h.up (fun k hk => by cases hk)
  unfold errT
  rw [(ordT_spec A.nd t none).1 hu]
  show (if balT A t = true then (0 : Int) else 8) = 0
  rw [if_pos (by rw [balT_bal h.agg h.sub]; exact h.bal)]
set_option maxHeartbeats 4000000 in
set_option maxRecDepth 100000 in
theorem refTree_any {A : Ar} {w : World} {a b la : Option Addr} {N c m d i L lc : Nat} {t : Tr} {l : List En} {held : Nat → Nat} (hv : A.Inv [] held) (hN : A.σ.cap = N) (hS : SlotsAt w a N A.sl) (hT : TreeAt A i t l) (hE : EnsAt w la l) (hL : l.length = L) (hl : L ≤ 65536) :
    Calls Try.prog 14 #[.agg #[.slice a N c, .slice b m d], .int .u32 (i : Int), .slice la L lc] w (Calm w (.bool true)) := by
  have hb1 : Below w.heap.size w (w.alloc (Obj.cells #[.slice a N c, .slice b m d] 33)) := (Below.refl _ _).alloc (Nat.le_refl _) _
  have hx1 := heap_alloc_new w (Obj.cells #[.slice a N c, .slice b m d] 33)
  have hg1 : w.heap.size < (w.alloc (Obj.cells #[.slice a N c, .slice b m d] 33)).heap.size := by simp
  have hNN : N ≤ 65536 := by have := hv.ok.cap2; omega
  have HCK : Hid (∀ wx, Below w.heap.size w wx → Calls Try.prog 42 #[.agg #[.slice a N c, .slice b m d], .int .u32 (i : Int)] wx (Calm wx (.int .i64 0))) := fun wx hx => by
    have h := refCheck_ok (b := b) (c := c) (m := m) (d := d) hv.ok hT.agg hN (hS.below hx) hT.sub hNN
    rw [tree_errI hT] at h
    exact h
  have HND : Hid (∀ wx, Below w.heap.size w wx → Calls Try.prog 43 #[.agg #[.slice a N c, .slice b m d], .int .u32 (i : Int)] wx (Calm wx (.agg (ndRow (A.nz i))))) := fun wx hx => refNode_any (hS.below hx) hv.ok hN hT.idx
  have HSZ : Hid ((A.nz i).size = (L : Int)) := by show _ = _; rw [nz_size hT.sub.idx hv.ok, hT.sub.size hT.agg, hT.size, hL]
  have HLI : Hid (∀ wx, Below w.heap.size w wx → Calls Try.prog 44 #[.agg #[.slice a N c, .slice b m d], .int .u32 (i : Int)] wx (MadeEns wx l)) := fun wx hx => by
    have h := listT_any hv.ok hT.sub wx a b N c m d hN (hS.below hx) (by rw [hT.size, hL]; omega)
    rw [hT.ents] at h
    exact h
  have HE := Lib.hid hE
  have HL := Lib.hid hL
  have HX1 := Lib.hid hx1
  have HG1 := Lib.hid hg1
  have HB1 := Lib.hid hb1
  have hli : (L : Int) ≤ 65536 := by omega
  clear hv hN hS hT hE hL hx1 hg1 hb1 hNN
  go_enter Try.func14, Try.ntmps14
  go_upto_region 1 with fail
  generalize w.alloc (Obj.cells #[.slice a N c, .slice b m d] 33) = w1 at HX1 HG1 HB1 ⊢
  generalize hg : w.heap.size = g at HX1 HG1 ⊢
  have HC : Hid (∀ wx, Below w1.heap.size w1 wx → wx.cell? ⟨g, 0, none⟩ = some (.slice a N c) ∧ wx.cell? ⟨g, 1, none⟩ = some (.slice b m d)) := fun wx hb => two_cells ((hb.block g HG1.out).trans HX1.out)
  have HW : Hid (∀ wx, Below w1.heap.size w1 wx → Below w.heap.size w wx) := fun wx hb => HB1.out.trans (hb.mono HB1.out.size)
  clear hg
  obtain ⟨c0, c1⟩ := HC.out w1 (Below.refl _ _)
  go_wp2_with fail
  refine (HCK.out w1 HB1.out).mono ?_
  rintro e w2 ⟨rfl, hb2⟩
  have HB2 := Lib.hid hb2
  clear hb2 c0 c1
  obtain ⟨c0, c1⟩ := HC.out w2 HB2.out
  go_wp2_with fail
  refine (HND.out w2 (HW.out _ HB2.out)).mono ?_
  rintro e w3 ⟨rfl, hb3⟩
  have HB3 : Hid (Below w1.heap.size w1 w3) := HB2.out.trans (hb3.mono HB2.out.size)
  clear hb3 c0 c1 HB2
  obtain ⟨c0, c1⟩ := HC.out w3 HB3.out
  unfold ndRow
  rw [HSZ.out]
  have hrs := run_size (.int .i64 (A.nz i).key) (.int .i64 (A.nz i).val) (.int .u32 ((A.nz i).left : Int)) (.int .u32 ((A.nz i).right : Int)) (.int .i64 (L : Int)) (.int .i64 (A.nz i).sum) (.int .i64 (A.nz i).mn) (.int .i64 (A.nz i).mx) w3
  go_wp2_with fail
  refine (HLI.out w3 (HW.out _ HB3.out)).mono ?_
  rintro e w4 hme
  clear hrs c0 c1
  have HWF : Hid (∀ y ∈ l, i64R y.key ∧ i64R y.val) := fun y hy => HE.out.wf y hy
  obtain ⟨a4, c4, rfl, hE4, hb4⟩ := made_ens hme HWF.out HL.out
  have HB4 : Hid (Below w1.heap.size w1 w4) := HB3.out.trans (hb4.mono HB3.out.size)
  have HE4 := Lib.hid hE4
  have HE0 := Lib.hid (HE.out.below (HW.out _ HB4.out))
  clear hme hE4 hb4 HB3
  go_wp2_with fail
  go_loopw [8] (fun x wr => ∃ k : Nat, k ≤ L ∧ x = .int .i64 (k : Int) ∧ ∃ q, wr = w4.drewN q) (fun x _ => L - (intOf x).toNat)
  case atStart => exact ⟨0, Nat.zero_le _, rfl, 0, rfl⟩
  case round =>
    obtain ⟨k, hk, rfl, q, rfl⟩ := hrel
    by_cases hlt : k < L
    · have hki : (k : Int) < (L : Int) := by omega
      have hk0 : (0 : Int) ≤ (k : Int) := by omega
      obtain ⟨e, he⟩ : ∃ e, l[k]? = some e := ⟨_, List.getElem?_eq_getElem (by have := HL.out; omega)⟩
      obtain ⟨g1, off, rfl, hb, c0, c1⟩ := HE0.out.at he
      obtain ⟨g2, off', rfl, hb', d0, d1⟩ := HE4.out.at he
      generalize e.key = x0 at c0 d0
      generalize e.val = x1 at c1 d1
      have HLT := Lib.hid hlt
      clear he hb hb' hk hlt
      go_wp2_with fail
      go_quiet (fail)
      go_wp2_with fail
      exact ⟨⟨k + 1, by have := HLT.out; omega, by go_num, _, rfl⟩, by have := HLT.out; simp [intOf]; omega⟩
    · have hki : ¬ (k : Int) < (L : Int) := by omega
      clear hlt hk
      go_wp2_with fail
      go_ret
      exact ⟨rfl, below_drewN (HW.out _ HB4.out) q⟩
end Go.Proofs.Ytnimbgcploohiaa
set_option linter.unusedVariables false
set_option linter.unusedSimpArgs false
namespace Go.Proofs.Ytnimbgcploohiaa
open Go.RowKit
theorem Tr.mid_ht : ∀ (t : Tr), t.mid → 2 ^ t.ht ≤ 2 * t.size + 1
  | .nil, _ => by decide
  | .node i l r, h => by
    obtain ⟨h1, h2, h3⟩ := h
    have hs : (Tr.node i l r).size = l.size + r.size + 1 := rfl
    have hh : (Tr.node i l r).ht = 1 + max l.ht r.ht := rfl
    have two : ∀ u : Tr, u.mid → (2 ^ u.ht ≤ 2 * u.size + 1) → 2 ^ u.ht ≤ 2 * u.size ∨ u.ht = 0 := fun u hu hle => by
      rcases Nat.eq_zero_or_pos u.ht with h | h
      · exact .inr h
      · have : 2 ^ u.ht = 2 * 2 ^ (u.ht - 1) := by rw [← Nat.pow_succ']; congr 1; omega
        omega
    have hl := two l h2 (Tr.mid_ht l h2)
    have hr := two r h3 (Tr.mid_ht r h3)
    rw [hs, hh, Nat.add_comm 1, Nat.pow_succ]
    rcases Nat.le_total l.ht r.ht with h | h
    · rw [Nat.max_eq_right h]
      rcases hr with hr | hr
      · omega
      · rw [hr]; omega
    · rw [Nat.max_eq_left h]
      rcases hl with hl | hl
      · omega
      · rw [hl]; omega
end Go.Proofs.Ytnimbgcploohiaa
set_option linter.unusedVariables false
set_option linter.unusedSimpArgs false
namespace Go.Proofs.Ytnimbgcploohiaa
open Go.RowKit
set_option maxHeartbeats 2000000 in
set_option maxRecDepth 100000 in
theorem ascending_any {w : World} {a : Option Addr} {n c : Nat} {l : List En} (h : EnsAt w a l) (hn : l.length = n) (hl : n ≤ 1000000) {v : Bool} (hv : v = true ↔ Up l) :
    Calls Try.prog 11 #[.slice a n c] w (Calm w (.bool v)) := by
  have hni : (n : Int) ≤ 1000000 := by omega
  have HH := Lib.hid h
  have HN := Lib.hid hn
  have HV := Lib.hid hv
  clear h hn hv
  go_enter Try.func11, Try.ntmps11
  go_wp2_with fail
  go_loopw [3] (fun i wr => ∃ k : Nat, 1 ≤ k ∧ k ≤ n + 1 ∧ i = .int .i64 (k : Int) ∧ AscTo l k ∧ ∃ q, wr = w.drewN q) (fun i _ => n + 1 - (intOf i).toNat)
  case atStart => exact ⟨1, Nat.le_refl _, by omega, rfl, fun j x y hj => by omega, 0, rfl⟩
  case round =>
    obtain ⟨k, hk1, hk, rfl, hA, q, rfl⟩ := hrel
    have HA := Lib.hid hA
    have hk1i : (1 : Int) ≤ (k : Int) := by omega
    clear hA
    by_cases hlt : k < n
    · have hki : (k : Int) < (n : Int) := by omega
      have hk0 : (0 : Int) ≤ (k : Int) := by omega
      obtain ⟨j, hj⟩ : ∃ j, k = j + 1 := ⟨k - 1, by omega⟩
      obtain ⟨y, hy⟩ : ∃ e, l[k]? = some e := ⟨_, List.getElem?_eq_getElem (by have := HN.out; omega)⟩
      obtain ⟨x, hx⟩ : ∃ e, l[j]? = some e := ⟨_, List.getElem?_eq_getElem (by have := HN.out; omega)⟩
      obtain ⟨g, off, rfl, hb, c0, c1⟩ := HH.out.at hy
      obtain ⟨g', off', hgg, hb', d0, d1⟩ := HH.out.at hx
      obtain ⟨rfl, rfl⟩ : g = g' ∧ off = off' := by simpa using hgg
      have hji : IntKind.i64.wrap ((k : Int) - 1) = (j : Int) := by rw [IntKind.wrap_i64]; omega
      have hj0 : (0 : Int) ≤ (j : Int) := by omega
      have hjn : (j : Int) < (n : Int) := by omega
      have HXY : Hid (l[k]? = some y ∧ l[j]? = some x ∧ k = j + 1) := ⟨hy, hx, hj⟩
      have HLT := Lib.hid hlt
      clear hb hb' hgg hy hx hlt c1 d1 hj
      by_cases hle : y.key ≤ x.key
      · have q1 : decide (y.key ≤ x.key) = true := decide_eq_true hle
        have HR : Hid (v = false) := by
          show _ = _
          cases hv : v with
          | false => rfl
          | true =>
            have h1 := HXY.out.1
            rw [HXY.out.2.2] at h1
            have := adj_up (HV.out.1 hv) HXY.out.2.1 h1
            omega
        clear hle
        go_upto_region 4 with fail
        go_quiet (fail)
        rename Nat => d
        go_wp2_with fail
        go_ret
        exact ⟨by rw [HR.out]; rfl, below_drewN (below_drewN (Below.refl _ _) _) _⟩
      · have q1 : decide (y.key ≤ x.key) = false := decide_eq_false hle
        have HAA : Hid (AscTo l (k + 1)) := fun j' x' y' hj' hx' hy' => by
          by_cases h1 : j' + 1 < k
          · exact HA.out j' x' y' h1 hx' hy'
          · have e1 : j' = j := by have := HXY.out.2.2; omega
            subst e1
            have h2 := HXY.out.1
            rw [HXY.out.2.2] at h2
            rw [HXY.out.2.1] at hx'
            rw [h2] at hy'
            cases hx'
            cases hy'
            omega
        clear hle
        go_upto_region 4 with fail
        go_quiet (fail)
        rename Nat => d
        go_wp2_with fail
        exact ⟨⟨k + 1, by omega, by have := HLT.out; omega, by go_num, HAA.out, _, rfl⟩, by have := HLT.out; simp [intOf]; omega⟩
    · have hki : ¬ (k : Int) < (n : Int) := by omega
      have HR : Hid (v = true) := HV.out.2 (up_adj fun j x y hx hy => HA.out j x y (by have := (List.getElem?_eq_some_iff.1 hy).1; have := HN.out; omega) hx hy)
      clear hlt
      go_wp2_with fail
      go_ret
      exact ⟨by rw [HR.out]; rfl, below_drewN (Below.refl _ _) _⟩
theorem asc_yes {w : World} {a : Option Addr} {n c : Nat} {l : List En} (h : EnsAt w a l) (hn : l.length = n) (hl : n ≤ 1000000) (hu : Up l) :
    Calls Try.prog 11 #[.slice a n c] w (Calm w (.bool true)) := ascending_any h hn hl ⟨fun _ => hu, fun _ => rfl⟩
theorem asc_no {w : World} {a : Option Addr} {n c : Nat} {l : List En} (h : EnsAt w a l) (hn : l.length = n) (hl : n ≤ 1000000) (hu : ¬ Up l) :
    Calls Try.prog 11 #[.slice a n c] w (Calm w (.bool false)) := ascending_any h hn hl ⟨fun e => (by cases e), fun h => absurd h hu⟩
end Go.Proofs.Ytnimbgcploohiaa
