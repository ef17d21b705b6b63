/- Of the proofs of UpdateIncreases, UpdateSequence, UpdateShares, UpdateCommutes, JoinUndoesSplit: KitList, LkCon, Scene, ChkS, SoundW, ScnMut, RefRsv, Got, BalW, Mid, JnN. -/
import Derived.Test.YtckkmmdibgoajaaU1
import Derived.Test.YtckkmmdibgoajaaU2
import Derived.Test.YtckkmmdibgoajaaU3
import Derived.Test.YtckkmmdibgoajaaU4
import Derived.Test.YtckkmmdibgoajaaU5
import Derived.Deep.DeepCutAuto
set_option linter.unusedVariables false
set_option linter.unusedSimpArgs false
namespace Go.Proofs.Ytckkmmdibgoajaa
open Go.RowKit
def InsRel (Z : Nat) (w2 : World) (l : List En) (e : En) (x d i : Value) (wr : World) : Prop :=
  ∃ (o : List En) (db : Bool) (j : Nat), i = .int .i64 (j : Int) ∧ d = .bool db ∧ j ≤ l.length ∧ ESt Z w2 o x wr ∧ o ++ insF e (l.drop j) db = insE l e
theorem below_new7e (w : World) (o : Obj) : Below w.heap.size w (w.alloc o) := (Below.refl _ _).alloc (Nat.le_refl _) _
theorem insF_cons (e x : En) (t : List En) (d : Bool) : insF e (x :: t) d = (if (!d && decide (e.key ≤ x.key)) = true then [e] else []) ++ (if x.key ≠ e.key then [x] else []) ++ insF e t (d || (!d && decide (e.key ≤ x.key))) := rfl
set_option maxHeartbeats 4000000 in
set_option maxRecDepth 100000 in
theorem insert_any {w : World} {a : Option Addr} {c : Nat} {l : List En} (e : En) (h : EnsAt w a l) (he : i64R e.key ∧ i64R e.val) (hl : l.length ≤ 1000000) :
    Calls Try.prog 14 #[.slice a l.length c, .agg #[.int .i64 e.key, .int .i64 e.val]] w (MadeEns w (insE l e)) := by
  obtain ⟨n, hn⟩ : ∃ n, l.length = n := ⟨_, rfl⟩
  have hb1 : Below w.heap.size w (w.alloc (Obj.cells #[Value.int .i64 e.key, Value.int .i64 e.val] 31)) := (Below.refl _ _).alloc (Nat.le_refl _) _
  have hbox := heap_alloc_new w (Obj.cells #[Value.int .i64 e.key, Value.int .i64 e.val] 31)
  have HB := Lib.hid hb1
  have HBOX := Lib.hid hbox
  have HE := Lib.hid (h.below hb1)
  have HN := Lib.hid hn
  have hni : (n : Int) ≤ 1000000 := by omega
  rw [hn]
  clear hb1 hbox hl hn h
  go_enter Try.func14, Try.ntmps14
  go_upto_region 1 with fail
  generalize w.alloc (Obj.cells #[Value.int .i64 e.key, Value.int .i64 e.val] 31) = w2 at HB HBOX HE ⊢
  obtain ⟨q, hq⟩ : ∃ q, w.heap.size = q := ⟨_, rfl⟩
  rw [hq] at HBOX HB ⊢
  have HQ := Lib.hid hq
  clear hq
  obtain ⟨Z, hZ⟩ : ∃ Z, w2.heap.size = Z := ⟨_, rfl⟩
  have HZ := Lib.hid hZ
  have hqz : q < Z := by rw [← hZ]; exact (Array.getElem?_eq_some_iff.1 HBOX.out).1
  have HQZ := Lib.hid hqz
  have HI0 : Hid (InsRel Z w2 l e (.slice none 0 0) (.bool false) (.int .i64 0) w2) := ⟨[], false, 0, rfl, rfl, Nat.zero_le _, ESt.start w2 hZ, rfl⟩
  clear hZ hqz
  go_wp2_with fail
  go_loopw [5, 6, 7] (fun x d i wr => InsRel Z w2 l e x d i wr) (fun _ _ i _ => n - (intOf i).toNat)
  case atStart => exact HI0.out
  case round =>
    clear HI0
    obtain ⟨o, db, j, rfl, rfl, hj, hst, hinv⟩ := hrel
    have HST := Lib.hid hst
    have HINV := Lib.hid hinv
    have hol : o.length ≤ n + 1 := by
      have h1 := congrArg List.length hinv
      have h2 := insE_len l e
      have h3 := HN.out
      rw [List.length_append] at h1
      omega
    have HOL := Lib.hid hol
    rw [HN.out] at hj
    obtain ⟨xa, xc, hx⟩ := hst.val
    subst hx
    have hbz : w2.heap.size ≤ wr.heap.size := hst.below.size
    have hbox2 := (hst.below.block q HQZ.out).trans HBOX.out
    have hkc : wr.cell? ⟨q, 0, none⟩ = some (.int .i64 e.key) := by rw [cell_of_row _ _ _ _ _ _ hbox2]; rfl
    have hvc : wr.cell? ⟨q, 1, none⟩ = some (.int .i64 e.val) := by rw [cell_of_row _ _ _ _ _ _ hbox2]; rfl
    have HBX := Lib.hid hbox2
    by_cases hlt : j < n
    · have hji : (j : Int) < (n : Int) := by omega
      have hj0 : (0 : Int) ≤ (j : Int) := by omega
      have HJ : Hid (j < n) := hlt
      have hjl : j < l.length := by rw [HN.out]; exact hlt
      have HEC := HE.out.cell j l[j] (List.getElem?_eq_getElem hjl)
      obtain ⟨b, off, rfl, hlb, d0, d1⟩ := HEC
      rw [HZ.out] at hlb
      have HF : Hid (∀ wx, Below Z w2 wx → wx.cell? ⟨b, off + j * 2, none⟩ = some (.int .i64 (l[j]).key) ∧ wx.cell? ⟨b, off + j * 2 + 1, none⟩ = some (.int .i64 (l[j]).val) ∧ wx.cell? ⟨q, 0, none⟩ = some (.int .i64 e.key) ∧ wx.cell? ⟨q, 1, none⟩ = some (.int .i64 e.val)) := fun wx hb => by
        have h1 := (hb.block q HQZ.out).trans HBOX.out
        exact ⟨by rw [← d0]; exact hb.cell (p := ⟨b, off + j * 2, none⟩) hlb, by rw [← d1]; exact hb.cell (p := ⟨b, off + j * 2 + 1, none⟩) hlb, by rw [cell_of_row _ _ _ _ _ _ h1]; rfl, by rw [cell_of_row _ _ _ _ _ _ h1]; rfl⟩
      have hdrop : l.drop j = l[j] :: l.drop (j + 1) := List.drop_eq_getElem_cons hjl
      have HD : Hid (o ++ ((if (!db && decide (e.key ≤ (l[j]).key)) = true then [e] else []) ++ (if (l[j]).key ≠ e.key then [l[j]] else []) ++ insF e (l.drop (j + 1)) (db || (!db && decide (e.key ≤ (l[j]).key)))) = insE l e) := by
        have h1 := HINV.out
        rw [hdrop, insF_cons] at h1
        exact h1
      generalize l[j] = x at HF HD d0 d1
      clear d0 d1
      have HOL2 : Hid (o.length ≤ n + 1 ∧ (o ++ [e]).length ≤ n + 2 ∧ n ≤ 1000000) := ⟨hol, by simp; omega, by omega⟩
      clear hst hinv hbox2 hjl hdrop hlt hj hol HINV hkc hvc HBX
      have HOLD : Hid (o.length ≤ 100000000) := by
        have := HOL2.out
        show o.length ≤ 100000000
        omega
      obtain ⟨c0, c1, hkc, hvc⟩ := HF.out wr HST.out.below
      cases db
      · by_cases hge : e.key ≤ x.key
        · by_cases hne : x.key ≠ e.key
          · skip
            have HFIN : Hid ((o ++ [e]) ++ [x] ++ insF e (l.drop (j + 1)) true = insE l e) := by
              have h1 := HD.out
              simp [hge, hne] at h1
              show (o ++ [e]) ++ [x] ++ insF e (l.drop (j + 1)) true = insE l e
              try simp
              exact h1
            have hn1 : (x.key == e.key) = false := by simp; exact hne
            have hn2 : ¬ x.key = e.key := hne
            have hg : decide (e.key ≤ x.key) = true := decide_eq_true hge
            go_upto_region 6 with fail
            go_quiet (fail)
            rename Nat => d1
            clear c0 c1 hkc hvc
            have HS3 : Hid (ESt Z w2 o _ (wr.drewN d1)) := HST.out.from (below_drewN (Below.refl _ _) d1) HZ.out
            generalize wr.drewN d1 = w3 at HS3 ⊢
            clear HST
            obtain ⟨c0, c1, hkc, hvc⟩ := HF.out w3 HS3.out.below
            go_upto_region 9 with (at_builtin; refine wpList_append_en rfl (.tmp 26) (.tmp 28) rfl (HS3.out.from (below_new7e _ _) HZ.out) HZ.out rfl e w3.heap.size rfl (cell_newE _ _ _) (by have := HOL.out; omega) ?_; intro v5 w5 hc5)
            obtain ⟨xa5, xc5, hx5⟩ := hc5.val
            subst hx5
            have HS5 := Lib.hid hc5
            clear c0 c1 hkc hvc hc5 HS3
            generalize w5 = w3 at HS5 ⊢
            have HS3 := HS5
            clear HS5
            obtain ⟨c0, c1, hkc, hvc⟩ := HF.out w3 HS3.out.below
            go_quiet (fail)
            rename Nat => d2
            clear c0 c1 hkc hvc
            have HS4 : Hid (ESt Z w2 (o ++ [e]) _ (w3.drewN d2)) := HS3.out.from (below_drewN (Below.refl _ _) d2) HZ.out
            generalize w3.drewN d2 = w4 at HS4 ⊢
            clear HS3
            obtain ⟨c0, c1, hkc, hvc⟩ := HF.out w4 HS4.out.below
            go_wp2_with (at_builtin; refine wpList_append_en rfl (.tmp 38) (.tmp 43) rfl (HS4.out.from (below_new7e _ _) HZ.out) HZ.out rfl x w4.heap.size rfl (cell_newE _ _ _) (by have := HOL2.out; omega) ?_; intro v5 w5 hc5)
            exact ⟨⟨(o ++ [e]) ++ [x], true, j + 1, by go_num, rfl, by have := HJ.out; have := HN.out; omega, hc5, HFIN.out⟩, by have := HJ.out; simp [intOf]; omega⟩
          · skip
            have HFIN : Hid ((o ++ [e]) ++ insF e (l.drop (j + 1)) true = insE l e) := by
              have h1 := HD.out
              simp [hge, hne] at h1
              show (o ++ [e]) ++ insF e (l.drop (j + 1)) true = insE l e
              try simp
              exact h1
            have hn2 : x.key = e.key := Classical.not_not.1 hne
            have hn1 : (x.key == e.key) = true := by simp; exact hn2
            have hg : decide (e.key ≤ x.key) = true := decide_eq_true hge
            go_upto_region 6 with fail
            go_quiet (fail)
            rename Nat => d1
            clear c0 c1 hkc hvc
            have HS3 : Hid (ESt Z w2 o _ (wr.drewN d1)) := HST.out.from (below_drewN (Below.refl _ _) d1) HZ.out
            generalize wr.drewN d1 = w3 at HS3 ⊢
            clear HST
            obtain ⟨c0, c1, hkc, hvc⟩ := HF.out w3 HS3.out.below
            go_upto_region 9 with (at_builtin; refine wpList_append_en rfl (.tmp 26) (.tmp 28) rfl (HS3.out.from (below_new7e _ _) HZ.out) HZ.out rfl e w3.heap.size rfl (cell_newE _ _ _) (by have := HOL.out; omega) ?_; intro v5 w5 hc5)
            obtain ⟨xa5, xc5, hx5⟩ := hc5.val
            subst hx5
            have HS5 := Lib.hid hc5
            clear c0 c1 hkc hvc hc5 HS3
            generalize w5 = w3 at HS5 ⊢
            have HS3 := HS5
            clear HS5
            obtain ⟨c0, c1, hkc, hvc⟩ := HF.out w3 HS3.out.below
            go_quiet (fail)
            rename Nat => d2
            clear c0 c1 hkc hvc
            have HS4 : Hid (ESt Z w2 (o ++ [e]) _ (w3.drewN d2)) := HS3.out.from (below_drewN (Below.refl _ _) d2) HZ.out
            generalize w3.drewN d2 = w4 at HS4 ⊢
            clear HS3
            obtain ⟨c0, c1, hkc, hvc⟩ := HF.out w4 HS4.out.below
            go_wp2_with fail
            exact ⟨⟨o ++ [e], true, j + 1, by go_num, rfl, by have := HJ.out; have := HN.out; omega, HS4.out, HFIN.out⟩, by have := HJ.out; simp [intOf]; omega⟩
        · have hne : x.key ≠ e.key := by omega
          have HFIN : Hid ((o) ++ [x] ++ insF e (l.drop (j + 1)) false = insE l e) := by
            have h1 := HD.out
            simp [hge, hne] at h1
            show (o) ++ [x] ++ insF e (l.drop (j + 1)) false = insE l e
            try simp
            exact h1
          have hn1 : (x.key == e.key) = false := by simp; exact hne
          have hn2 : ¬ x.key = e.key := hne
          have hg : decide (e.key ≤ x.key) = false := decide_eq_false hge
          go_upto_region 6 with fail
          go_quiet (fail)
          rename Nat => d1
          clear c0 c1 hkc hvc
          have HS3 : Hid (ESt Z w2 o _ (wr.drewN d1)) := HST.out.from (below_drewN (Below.refl _ _) d1) HZ.out
          generalize wr.drewN d1 = w3 at HS3 ⊢
          clear HST
          go_upto_region 9 with fail
          obtain ⟨c0, c1, hkc, hvc⟩ := HF.out w3 HS3.out.below
          go_quiet (fail)
          rename Nat => d2
          clear c0 c1 hkc hvc
          have HS4 : Hid (ESt Z w2 (o) _ (w3.drewN d2)) := HS3.out.from (below_drewN (Below.refl _ _) d2) HZ.out
          generalize w3.drewN d2 = w4 at HS4 ⊢
          clear HS3
          obtain ⟨c0, c1, hkc, hvc⟩ := HF.out w4 HS4.out.below
          go_wp2_with (at_builtin; refine wpList_append_en rfl (.tmp 38) (.tmp 43) rfl (HS4.out.from (below_new7e _ _) HZ.out) HZ.out rfl x w4.heap.size rfl (cell_newE _ _ _) (by have := HOL2.out; omega) ?_; intro v5 w5 hc5)
          exact ⟨⟨(o) ++ [x], false, j + 1, by go_num, rfl, by have := HJ.out; have := HN.out; omega, hc5, HFIN.out⟩, by have := HJ.out; simp [intOf]; omega⟩
      · by_cases hne : x.key ≠ e.key
        · skip
          have HFIN : Hid ((o) ++ [x] ++ insF e (l.drop (j + 1)) true = insE l e) := by
            have h1 := HD.out
            simp [hne] at h1
            show (o) ++ [x] ++ insF e (l.drop (j + 1)) true = insE l e
            try simp
            exact h1
          have hn1 : (x.key == e.key) = false := by simp; exact hne
          have hn2 : ¬ x.key = e.key := hne
          go_upto_region 6 with fail
          go_quiet (fail)
          rename Nat => d1
          clear c0 c1 hkc hvc
          have HS3 : Hid (ESt Z w2 o _ (wr.drewN d1)) := HST.out.from (below_drewN (Below.refl _ _) d1) HZ.out
          generalize wr.drewN d1 = w3 at HS3 ⊢
          clear HST
          go_upto_region 9 with fail
          obtain ⟨c0, c1, hkc, hvc⟩ := HF.out w3 HS3.out.below
          go_quiet (fail)
          rename Nat => d2
          clear c0 c1 hkc hvc
          have HS4 : Hid (ESt Z w2 (o) _ (w3.drewN d2)) := HS3.out.from (below_drewN (Below.refl _ _) d2) HZ.out
          generalize w3.drewN d2 = w4 at HS4 ⊢
          clear HS3
          obtain ⟨c0, c1, hkc, hvc⟩ := HF.out w4 HS4.out.below
          go_wp2_with (at_builtin; refine wpList_append_en rfl (.tmp 38) (.tmp 43) rfl (HS4.out.from (below_new7e _ _) HZ.out) HZ.out rfl x w4.heap.size rfl (cell_newE _ _ _) (by have := HOL2.out; omega) ?_; intro v5 w5 hc5)
          exact ⟨⟨(o) ++ [x], true, j + 1, by go_num, rfl, by have := HJ.out; have := HN.out; omega, hc5, HFIN.out⟩, by have := HJ.out; simp [intOf]; omega⟩
        · skip
          have HFIN : Hid ((o) ++ insF e (l.drop (j + 1)) true = insE l e) := by
            have h1 := HD.out
            simp [hne] at h1
            show (o) ++ insF e (l.drop (j + 1)) true = insE l e
            try simp
            exact h1
          have hn2 : x.key = e.key := Classical.not_not.1 hne
          have hn1 : (x.key == e.key) = true := by simp; exact hn2
          go_upto_region 6 with fail
          go_quiet (fail)
          rename Nat => d1
          clear c0 c1 hkc hvc
          have HS3 : Hid (ESt Z w2 o _ (wr.drewN d1)) := HST.out.from (below_drewN (Below.refl _ _) d1) HZ.out
          generalize wr.drewN d1 = w3 at HS3 ⊢
          clear HST
          go_upto_region 9 with fail
          obtain ⟨c0, c1, hkc, hvc⟩ := HF.out w3 HS3.out.below
          go_quiet (fail)
          rename Nat => d2
          clear c0 c1 hkc hvc
          have HS4 : Hid (ESt Z w2 (o) _ (w3.drewN d2)) := HS3.out.from (below_drewN (Below.refl _ _) d2) HZ.out
          generalize w3.drewN d2 = w4 at HS4 ⊢
          clear HS3
          obtain ⟨c0, c1, hkc, hvc⟩ := HF.out w4 HS4.out.below
          go_wp2_with fail
          exact ⟨⟨o, true, j + 1, by go_num, rfl, by have := HJ.out; have := HN.out; omega, HS4.out, HFIN.out⟩, by have := HJ.out; simp [intOf]; omega⟩
    · have hjn : j = n := by omega
      have hdr : l.drop j = [] := List.drop_eq_nil_of_le (by rw [HN.out]; omega)
      rw [hdr] at hinv
      have hlt0 : ¬ (j : Int) < (n : Int) := by omega
      have HBW : Hid (∀ wx, Below Z w2 wx → Below w.heap.size w wx) := fun wx hb => by rw [HQ.out]; exact HB.out.trans (hb.mono (Nat.le_of_lt HQZ.out))
      have HOLD : Hid (o.length ≤ 100000000) := by
        show o.length ≤ 100000000
        omega
      clear hst hbox2 HBX HINV hdr hjn hlt hj hol
      cases db
      · have HF : Hid (o ++ [e] = insE l e) := hinv
        clear hinv
        go_wp2_with (at_builtin; refine wpList_append_en rfl (.tmp 47) (.tmp 49) rfl (HST.out.from (below_new7e _ _) HZ.out) HZ.out rfl e wr.heap.size rfl (cell_newE _ _ _) HOLD.out ?_; intro v5 w5 hc5)
        go_ret
        obtain ⟨xa5, xc5, hx5⟩ := hc5.val
        subst hx5
        have hrow := hc5.row
        have hbl := HBW.out _ hc5.below
        rw [HF.out] at hrow ⊢
        exact ⟨xa5, xc5, rfl, row_mono hrow (by rw [HQ.out]; exact Nat.le_of_lt HQZ.out), hbl⟩
      · have HF : Hid (o = insE l e) := by
          have h1 := hinv
          unfold insF at h1
          show o = insE l e
          simpa using h1
        clear hinv
        go_wp2_with fail
        go_ret
        have hrow := HST.out.row
        have hbl := HBW.out _ HST.out.below
        rw [HF.out] at hrow ⊢
        exact ⟨xa, xc, rfl, row_mono hrow (by rw [HQ.out]; exact Nat.le_of_lt HQZ.out), hbl⟩
def LRel (w : World) (raw : List En) (k : Nat) (x i : Value) (wr : World) : Prop :=
  ∃ (j : Nat) (a : Option Addr) (c : Nat), i = .int .i64 (j : Int) ∧ j ≤ k ∧ j ≤ raw.length ∧ x = .slice a (listE raw j).length c ∧ wr.ownsRow w.heap.size 31 2 (.slice a (listE raw j).length c) (listE raw j).length (ensV (listE raw j)) ∧ Below w.heap.size w wr
set_option maxHeartbeats 2000000 in
set_option maxRecDepth 100000 in
theorem list_any {w : World} {a : Option Addr} {n c k : Nat} {raw : List En} (h : EnsAt w a raw) (hn : raw.length = n) (hnm : n ≤ 9223372036854775807) (hk : k ≤ 100000) :
    Calls Try.prog 8 #[.slice a n c, .int .i64 (k : Int)] w (MadeEns w (listE raw k)) := by
  have HE := Lib.hid h
  have HN := Lib.hid hn
  have hni : (n : Int) ≤ 9223372036854775807 := by omega
  have hki : (k : Int) ≤ 100000 := by omega
  have HKK : Hid (k ≤ 100000) := hk
  have HR0 : Hid (LRel w raw k (.slice none 0 0) (.int .i64 0) w) := ⟨0, none, 0, rfl, Nat.zero_le _, Nat.zero_le _, rfl, World.ownsRow_nil _ _ _ _, Below.refl _ _⟩
  clear h hn hnm hk
  go_enter Try.func8, Try.ntmps8
  go_wp2_with fail
  go_loopw [5, 6] (fun x i wr => LRel w raw k x i wr) (fun _ i _ => k - (intOf i).toNat)
  case atStart => exact HR0.out
  case round =>
    clear HR0
    obtain ⟨j, xa, xc, rfl, hjk, hjl, rfl, hrow, hb⟩ := hrel
    have HROW := Lib.hid hrow
    have HB := Lib.hid hb
    have hlen := listE_len raw j
    have HLEN : Hid ((listE raw j).length ≤ 1000000) := (by show (listE raw j).length ≤ 1000000; omega)
    have HWF : Hid (∀ y ∈ listE raw j, i64R y.key ∧ i64R y.val) := fun y hy => HE.out.wf y (listE_mem hy)
    by_cases hlt : j < n
    · have hji : (j : Int) < (n : Int) := by omega
      have hj0 : (0 : Int) ≤ (j : Int) := by omega
      by_cases hlk : j < k
      · have hji2 : (j : Int) < (k : Int) := by omega
        have hjr : j < raw.length := by rw [HN.out]; exact hlt
        have HS : Hid (listE raw (j + 1) = insE (listE raw j) raw[j]) := listE_succ hjr
        have HX : Hid (i64R (raw[j]).key ∧ i64R (raw[j]).val) := HE.out.wf _ (List.getElem_mem hjr)
        obtain ⟨b, off, rfl, hlb, c0, c1⟩ := (HE.out.below hb).cell j raw[j] (List.getElem?_eq_getElem hjr)
        generalize raw[j] = e at c0 c1 HS HX
        have HJ : Hid (j < k ∧ j + 1 ≤ raw.length) := ⟨hlk, hjr⟩
        have HSL : Hid (EnsAt wr xa (listE raw j)) := ens_at hrow HWF.out
        clear hrow hb hlen hjr hlt hlk hjk hjl
        generalize hL : listE raw j = L at HROW HLEN HWF HS HSL ⊢
        clear hL
        go_wp2_with fail
        refine (insert_any e HSL.out HX.out HLEN.out).mono ?_
        rintro ee w3 ⟨a3, c3, rfl, hrow3, hb3⟩
        rw [← HS.out] at hrow3 ⊢
        have HR : Hid (LRel w raw k (.slice a3 (listE raw (j + 1)).length c3) (.int .i64 ((j : Int) + 1)) w3) := ⟨j + 1, a3, c3, by congr 1, HJ.out.1, HJ.out.2, rfl, row_mono hrow3 HB.out.size, HB.out.trans (hb3.mono HB.out.size)⟩
        clear hrow3 hb3
        generalize (listE raw (j + 1)).length = LL at HR ⊢
        go_wp2_with fail
        exact ⟨HR.out, by have := HJ.out; simp [intOf]; omega⟩
      · have hlk0 : ¬ (j : Int) < (k : Int) := by omega
        obtain rfl : j = k := by omega
        clear hrow hb hlen hlt hlk hjk hjl hlk0
        go_wp2_with fail
        go_ret
        exact ⟨xa, xc, rfl, HROW.out, HB.out⟩
    · have hlt0 : ¬ (j : Int) < (n : Int) := by omega
      have HF : Hid (listE raw j = listE raw k) := by
        show listE raw j = listE raw k
        unfold listE
        rw [List.take_of_length_le (show raw.length ≤ j by rw [HN.out]; omega), List.take_of_length_le (show raw.length ≤ k by rw [HN.out]; omega)]
      clear hrow hb hlen hlt hjk hjl
      go_wp2_with fail
      go_ret
      have hr := HROW.out
      rw [HF.out] at hr ⊢
      exact ⟨xa, xc, rfl, hr, HB.out⟩
end Go.Proofs.Ytckkmmdibgoajaa
set_option linter.unusedVariables false
set_option linter.unusedSimpArgs false
namespace Go.Proofs.Ytckkmmdibgoajaa
open Go.RowKit
/-- index i of the arena is the tree t with the entries l -/
structure TreeAt (A : Ar) (i : Nat) (t : Tr) (l : List En) : Prop where
  inv : ∃ held, A.Inv [] held
  agg : A.Agg
  sub : Sub A i t
  bal : t.bal = true
  ents : t.ents A.nd = l
  up : Up l
theorem Planted.tree {A A' : Ar} {held : Nat → Nat} {l : List En} {i : Nat} {t : Tr} (h : Planted A held l A' i t) (hu : Up l) : TreeAt A' i t l := ⟨⟨_, h.inv⟩, h.agg, h.sub, h.bal, h.ents, hu⟩
theorem TreeAt.size {A : Ar} {i : Nat} {t : Tr} {l : List En} (h : TreeAt A i t l) : t.size = l.length := by rw [← h.ents, Tr.ents_len]
theorem TreeAt.ht {A : Ar} {i : Nat} {t : Tr} {l : List En} (h : TreeAt A i t l) (hl : l.length ≤ 2147483647) : t.ht ≤ xh l.length := by
  have h1 := balT_ht h.agg h.sub (by rw [balT_bal h.agg h.sub]; exact h.bal)
  rw [h.size] at h1
  exact xh_le hl (by omega)
theorem TreeAt.idx {A : Ar} {i : Nat} {t : Tr} {l : List En} (h : TreeAt A i t l) : i < 4294967296 := by
  obtain ⟨held, hv⟩ := h.inv
  rcases h.sub.idx with h1 | h1
  · omega
  · have := hv.ok.on i h1; have := hv.ok.cap2; omega
/-- how often may be read -/
def mostI (n : Nat) : Int := 4 * ((xh n : Int) + 2)
/-- a call that reads: what it returns, what it leaves -/
def ReadsTo (I : AImpl) (p : Value) (A : Ar) (rd : Int) (F : Nat → Prop) (bd : Int) (v : Value) (w : World) (e : Ending) (w' : World) : Prop :=
  ∃ F' rd', e = .returned v ∧ Alters F F' w w' ∧ I.Is w' p A rd' F' ∧ rd ≤ rd' ∧ rd' ≤ rd + bd
/-- an entry, or none, as a result -/
def enR (o : Option En) : Value := .tuple #[.agg (enA o), .bool o.isSome]
/-- the indexes of the search -/
def pathT (nd : Nat → Nd) (k : Int) : Tr → List Nat
  | .nil => []
  | .node i l r => i :: (if k = (nd i).key then [] else if k < (nd i).key then pathT nd k l else pathT nd k r)
/-- a call that reads and returns a new row of numbers -/
def PathRes (I : AImpl) (p : Value) (A : Ar) (rd : Int) (F : Nat → Prop) (bd : Int) (P : List Nat) (w : World) (e : Ending) (w' : World) : Prop :=
  ∃ F' rd' a c, e = .returned (.slice a P.length c) ∧ Alters F F' w w' ∧ I.Is w' p A rd' F' ∧ rd ≤ rd' ∧ rd' ≤ rd + bd ∧ w'.ownsRow w.heap.size 26 1 (.slice a P.length c) P.length (u32s P) ∧ ∀ g, Value.ownBlock (.slice a P.length c) = some g → ¬ F' g
theorem pathT_ht (nd : Nat → Nd) (k : Int) : ∀ t : Tr, (pathT nd k t).length ≤ t.ht
  | .nil => Nat.le_refl _
  | .node i l r => by
    have h1 := pathT_ht nd k l
    have h2 := pathT_ht nd k r
    unfold pathT
    show _ ≤ 1 + max l.ht r.ht
    rw [List.length_cons]
    split
    · simp
    · split <;> omega
structure LkImpl (I : AImpl) : Prop where
  get : ∀ {p : Value} {A : Ar} {rd : Int} {F : Nat → Prop} {i : Nat} {t : Tr} {l : List En} (k : Int) (w : World), I.Is w p A rd F → TreeAt A i t l → 0 ≤ rd → rd ≤ 1099511627776 → i64R k →
    Calls Try.prog 37 #[p, .int .u32 (i : Int), .int .i64 k] w (ReadsTo I p A rd F (mostI l.length) (.tuple #[.int .i64 ((getE l k).elim 0 (·.val)), .bool (getE l k).isSome]) w)
  first : ∀ {p : Value} {A : Ar} {rd : Int} {F : Nat → Prop} {i : Nat} {t : Tr} {l : List En} (w : World), I.Is w p A rd F → TreeAt A i t l → 0 ≤ rd → rd ≤ 1099511627776 → (∀ e ∈ l, i64R e.key) →
    Calls Try.prog 58 #[p, .int .u32 (i : Int)] w (ReadsTo I p A rd F (mostI l.length) (enR l.head?) w)
  last : ∀ {p : Value} {A : Ar} {rd : Int} {F : Nat → Prop} {i : Nat} {t : Tr} {l : List En} (w : World), I.Is w p A rd F → TreeAt A i t l → 0 ≤ rd → rd ≤ 1099511627776 → (∀ e ∈ l, i64R e.key) →
    Calls Try.prog 59 #[p, .int .u32 (i : Int)] w (ReadsTo I p A rd F (mostI l.length) (enR l.getLast?) w)
  floor : ∀ {p : Value} {A : Ar} {rd : Int} {F : Nat → Prop} {i : Nat} {t : Tr} {l : List En} (k : Int) (w : World), I.Is w p A rd F → TreeAt A i t l → 0 ≤ rd → rd ≤ 1099511627776 → i64R k →
    Calls Try.prog 83 #[p, .int .u32 (i : Int), .int .i64 k] w (ReadsTo I p A rd F (mostI l.length) (enR (floorE l k)) w)
  ceiling : ∀ {p : Value} {A : Ar} {rd : Int} {F : Nat → Prop} {i : Nat} {t : Tr} {l : List En} (k : Int) (w : World), I.Is w p A rd F → TreeAt A i t l → 0 ≤ rd → rd ≤ 1099511627776 → i64R k →
    Calls Try.prog 82 #[p, .int .u32 (i : Int), .int .i64 k] w (ReadsTo I p A rd F (mostI l.length) (enR (ceilE l k)) w)
  path : ∀ {p : Value} {A : Ar} {rd : Int} {F : Nat → Prop} {i : Nat} {t : Tr} {l : List En} (k : Int) (w : World), I.Is w p A rd F → TreeAt A i t l → 0 ≤ rd → rd ≤ 1099511627776 → i64R k →
    Calls Try.prog 47 #[p, .int .u32 (i : Int), .int .i64 k] w (PathRes I p A rd F (mostI l.length) (pathT A.nd k t) w)
/-- the arena with its count of reads, beside the boxes of G -/
structure MR (I : AImpl) (B : Nat) (w0 w : World) (p : Value) (A : Ar) (rd : Int) (G : Nat → Prop) : Prop where
  has : ∃ F, I.Is w p A rd F ∧ (∀ k, F k → B ≤ k) ∧ ∀ k, G k → k < w.heap.size ∧ ¬ F k
  below : Below B w0 w
  hB : B ≤ w.heap.size
section
variable {I : AImpl} {B : Nat} {w0 w w' : World} {p : Value} {A : Ar} {rd : Int} {G : Nat → Prop}
theorem MR.calm (h : MR I B w0 w p A rd G) (hb : Below w.heap.size w w') : MR I B w0 w' p A rd G := by
  obtain ⟨F, h1, h4, h5⟩ := h.has
  exact ⟨⟨F, I.below h1 hb, h4, fun k hk => ⟨Nat.lt_of_lt_of_le (h5 k hk).1 hb.size, (h5 k hk).2⟩⟩, h.below.trans (hb.mono h.hB), Nat.le_trans h.hB hb.size⟩
theorem MR.lt (h : MR I B w0 w p A rd G) {k : Nat} (hk : G k) : k < w.heap.size := by
  obtain ⟨F, h1, h4, h5⟩ := h.has
  exact (h5 k hk).1
theorem MR.keeps (h : MR I B w0 w p A rd G) (hb : Below w.heap.size w w') : Keeps G w w' := fun k hk => hb.block k (h.lt hk)
theorem MR.alloc (h : MR I B w0 w p A rd G) (o : Obj) : MR I B w0 (w.alloc o) p A rd (fun k => G k ∨ k = w.heap.size) := by
  have hb := below_new7 w o
  have h' := h.calm hb
  obtain ⟨F, h1, h4, h5⟩ := h.has
  refine ⟨⟨F, I.below h1 hb, h4, fun k hk => ?_⟩, h'.below, h'.hB⟩
  rcases hk with hk | rfl
  · exact ⟨Nat.lt_of_lt_of_le (h5 k hk).1 hb.size, (h5 k hk).2⟩
  · exact ⟨by simp, fun hF => Nat.lt_irrefl _ (I.dom h1 _ hF)⟩
theorem MR.less {G' : Nat → Prop} (h : MR I B w0 w p A rd G) (hG : ∀ k, G' k → G k) : MR I B w0 w p A rd G' := by
  obtain ⟨F, h1, h4, h5⟩ := h.has
  exact ⟨⟨F, h1, h4, fun k hk => h5 k (hG k hk)⟩, h.below, h.hB⟩
/-- a fresh block joins the boxes -/
theorem MR.fresh {G' : Nat → Prop} (h : MR I B w0 w p A rd G) (hb : Below w.heap.size w w') (hG : ∀ k, G' k → G k ∨ (w.heap.size ≤ k ∧ k < w'.heap.size)) : MR I B w0 w' p A rd G' := by
  have h' := h.calm hb
  obtain ⟨F, h1, h4, h5⟩ := h.has
  refine ⟨⟨F, I.below h1 hb, h4, fun k hk => ?_⟩, h'.below, h'.hB⟩
  rcases hG k hk with hk | ⟨h6, h7⟩
  · exact ⟨Nat.lt_of_lt_of_le (h5 k hk).1 hb.size, (h5 k hk).2⟩
  · exact ⟨h7, fun hF => by have := I.dom h1 _ hF; omega⟩
theorem MR.step {rd' : Int} {F F' : Nat → Prop} (h : MR I B w0 w p A rd G) (hF : ∀ k, F k → B ≤ k) (hG : ∀ k, G k → k < w.heap.size ∧ ¬ F k) (hal : Alters F F' w w') (hI : I.Is w' p A rd' F') : MR I B w0 w' p A rd' G ∧ Keeps G w w' :=
  ⟨⟨⟨F', hI, hal.from h.hB hF, hal.apart hG⟩, hal.below h.below h.hB hF, Nat.le_trans h.hB hal.size⟩, fun k hk => hal.block k (hG k hk).1 (hG k hk).2⟩
/-- what a call that reads leaves beside boxes -/
def MRes (I : AImpl) (B : Nat) (w0 : World) (p : Value) (A : Ar) (rd bd : Int) (G : Nat → Prop) (v : Value) (w : World) (e : Ending) (w' : World) : Prop :=
  e = .returned v ∧ ∃ rd', MR I B w0 w' p A rd' G ∧ Keeps G w w' ∧ rd ≤ rd' ∧ rd' ≤ rd + bd
theorem mr_call {bd : Int} {v : Value} {f : FuncId} {args : Array Value} (h : MR I B w0 w p A rd G) (hc : ∀ F, I.Is w p A rd F → Calls Try.prog f args w (ReadsTo I p A rd F bd v w)) : Calls Try.prog f args w (MRes I B w0 p A rd bd G v w) := by
  obtain ⟨F, h1, h4, h5⟩ := h.has
  refine (hc F h1).mono ?_
  rintro e w1 ⟨F', rd', he, hal, hI, h6, h7⟩
  have := h.step h4 h5 hal hI
  exact ⟨he, rd', this.1, this.2, h6, h7⟩
end
theorem xhI_nat {n : Nat} (h : n ≤ 2147483647) : xhI (n : Int) = (xh n : Int) := by
  unfold xhI
  rw [if_pos ⟨by omega, by omega⟩, Int.toNat_natCast]
end Go.Proofs.Ytckkmmdibgoajaa
set_option linter.unusedVariables false
set_option linter.unusedSimpArgs false
namespace Go.Proofs.Ytckkmmdibgoajaa
open Go.RowKit
structure Row where
  e : TypeId
  s : Nat
  v : Value
  n : Nat
  xs : List Value
/-- the blocks of rows and boxes -/
def SG (rs : List Row) (bs : List (Nat × Obj)) (k : Nat) : Prop := (∃ r ∈ rs, r.v.ownBlock = some k) ∨ ∃ b ∈ bs, b.1 = k
structure Scn (I : AImpl) (B : Nat) (w0 w : World) (p : Value) (A : Ar) (rd : Int) (rs : List Row) (bs : List (Nat × Obj)) : Prop where
  mr : MR I B w0 w p A rd (SG rs bs)
  rows : ∀ r ∈ rs, w.ownsRow B r.e r.s r.v r.n r.xs
  boxes : ∀ b ∈ bs, B ≤ b.1 ∧ w.heap[b.1]? = some b.2
  rr : rs.Pairwise fun x y => ∀ k, x.v.ownBlock = some k → y.v.ownBlock ≠ some k
  bb : bs.Pairwise fun x y => x.1 ≠ y.1
  rb : ∀ r ∈ rs, ∀ b ∈ bs, r.v.ownBlock ≠ some b.1
section
variable {I : AImpl} {B : Nat} {w0 w w' : World} {p : Value} {A : Ar} {rd rd' : Int} {rs : List Row} {bs : List (Nat × Obj)}
theorem Scn.start (h : MR I B w0 w p A rd (fun _ => False)) : Scn I B w0 w p A rd [] [] :=
  ⟨h.less fun k hk => (by (rcases hk with ⟨r, hr, _⟩ | ⟨b, hb, _⟩); (cases hr); (cases hb)), fun r hr => (by cases hr), fun b hb => (by cases hb), List.Pairwise.nil, List.Pairwise.nil, fun r hr => (by cases hr)⟩
theorem Scn.step (h : Scn I B w0 w p A rd rs bs) (hm : MR I B w0 w' p A rd' (SG rs bs)) (hk : Keeps (SG rs bs) w w') : Scn I B w0 w' p A rd' rs bs :=
  ⟨hm, fun r hr => row_keep (h.rows r hr) fun k hk' => hk k (.inl ⟨r, hr, hk'⟩), fun b hb => ⟨(h.boxes b hb).1, (hk b.1 (.inr ⟨b, hb, rfl⟩)).trans (h.boxes b hb).2⟩, h.rr, h.bb, h.rb⟩
theorem Scn.calm (h : Scn I B w0 w p A rd rs bs) (hb : Below w.heap.size w w') : Scn I B w0 w' p A rd rs bs := h.step (h.mr.calm hb) (h.mr.keeps hb)
theorem Scn.lt (h : Scn I B w0 w p A rd rs bs) {k : Nat} (hk : SG rs bs k) : k < w.heap.size := h.mr.lt hk
/-- a new box -/
theorem Scn.box (h : Scn I B w0 w p A rd rs bs) (cs : Array Value) (t : TypeId) : Scn I B w0 (w.alloc (.cells cs t)) p A rd rs ((w.heap.size, .cells cs t (0, 0)) :: bs) := by
  have hb := below_new7 w (.cells cs t)
  have h' := h.calm hb
  refine ⟨h.mr.fresh hb fun k hk => ?_, h'.rows, fun b hb' => ?_, h.rr, List.pairwise_cons.2 ⟨fun b hb' e => ?_, h.bb⟩, fun r hr b hb' => ?_⟩
  · rcases hk with hk | ⟨b, hb', rfl⟩
    · exact .inl (.inl hk)
    · rcases List.mem_cons.1 hb' with rfl | hb'
      · exact .inr ⟨Nat.le_refl _, by simp⟩
      · exact .inl (.inr ⟨b, hb', rfl⟩)
  · rcases List.mem_cons.1 hb' with rfl | hb'
    · exact ⟨h.mr.hB, heap_alloc_new w _⟩
    · exact h'.boxes b hb'
  · have := h.lt (.inr ⟨b, hb', rfl⟩)
    have e' : w.heap.size = b.1 := e
    omega
  · rcases List.mem_cons.1 hb' with rfl | hb'
    · intro e
      have := h.lt (.inl ⟨r, hr, e⟩)
      exact Nat.lt_irrefl _ this
    · exact h.rb r hr b hb'
/-- a row that was made -/
theorem Scn.row (h : Scn I B w0 w p A rd rs bs) (hb : Below w.heap.size w w') {e : TypeId} {s n : Nat} {v : Value} {xs : List Value} (hr : w'.ownsRow w.heap.size e s v n xs) : Scn I B w0 w' p A rd (⟨e, s, v, n, xs⟩ :: rs) bs := by
  have h' := h.calm hb
  refine ⟨h.mr.fresh hb fun k hk => ?_, fun r hr' => ?_, h'.boxes, List.pairwise_cons.2 ⟨fun r hr' k hk e' => ?_, h.rr⟩, h.bb, fun r hr' b hb' => ?_⟩
  · rcases hk with ⟨r, hr', hk⟩ | hk
    · rcases List.mem_cons.1 hr' with rfl | hr'
      · exact .inr (row_lt hr k hk)
      · exact .inl (.inl ⟨r, hr', hk⟩)
    · exact .inl (.inr hk)
  · rcases List.mem_cons.1 hr' with rfl | hr'
    · exact row_mono hr h.mr.hB
    · exact h'.rows r hr'
  · have h1 := (row_lt hr k hk).1
    have h2 := h.lt (.inl ⟨r, hr', e'⟩)
    omega
  · rcases List.mem_cons.1 hr' with rfl | hr'
    · intro e'
      have h1 := (row_lt hr _ e').1
      have h2 := h.lt (.inr ⟨b, hb', rfl⟩)
      omega
    · exact h.rb r hr' b hb'
theorem Scn.less {rs' : List Row} {bs' : List (Nat × Obj)} (h : Scn I B w0 w p A rd rs bs) (h1 : rs'.Sublist rs) (h2 : bs'.Sublist bs) : Scn I B w0 w p A rd rs' bs' :=
  ⟨h.mr.less fun k hk => by (rcases hk with ⟨r, hr, hk⟩ | ⟨b, hb, hk⟩; exact .inl ⟨r, h1.subset hr, hk⟩; exact .inr ⟨b, h2.subset hb, hk⟩), fun r hr => h.rows r (h1.subset hr), fun b hb => h.boxes b (h2.subset hb), h.rr.sublist h1, h.bb.sublist h2, fun r hr b hb => h.rb r (h1.subset hr) b (h2.subset hb)⟩
theorem Scn.below (h : Scn I B w0 w p A rd rs bs) : Below B w0 w := h.mr.below
/-- a box of two numbers -/
theorem Scn.two {g : Nat} {x y : Int} {t : TypeId} (h : Scn I B w0 w p A rd rs bs) (hm : (g, Obj.cells #[.int .i64 x, .int .i64 y] t (0, 0)) ∈ bs) : w.cell? ⟨g, 0, none⟩ = some (.int .i64 x) ∧ w.cell? ⟨g, 1, none⟩ = some (.int .i64 y) ∧ w.frozen? ⟨g, 0, none⟩ = false ∧ w.frozen? ⟨g, 1, none⟩ = false :=
  ⟨(two_ofE (h.boxes _ hm).2).1, (two_ofE (h.boxes _ hm).2).2, frozen_of_row _ _ _ _ _ (h.boxes _ hm).2, frozen_of_row _ _ _ _ _ (h.boxes _ hm).2⟩
/-- two rows that were made by one call -/
theorem Scn.row2 (h : Scn I B w0 w p A rd rs bs) (hb : Below w.heap.size w w') {e e' : TypeId} {s s' n n' : Nat} {v v' : Value} {xs xs' : List Value} (hr : w'.ownsRow w.heap.size e s v n xs) (hr2 : w'.ownsRow w.heap.size e' s' v' n' xs') (hne : ∀ k, v'.ownBlock = some k → v.ownBlock ≠ some k) :
    Scn I B w0 w' p A rd (⟨e', s', v', n', xs'⟩ :: ⟨e, s, v, n, xs⟩ :: rs) bs := by
  have h1 := h.row hb hr
  refine ⟨h.mr.fresh hb fun k hk => ?_, fun r hr' => ?_, h1.boxes, List.pairwise_cons.2 ⟨fun r hr' k hk e' => ?_, h1.rr⟩, h.bb, fun r hr' b hb' => ?_⟩
  · rcases hk with ⟨r, hr', hk⟩ | hk
    · rcases List.mem_cons.1 hr' with rfl | hr'
      · exact .inr (row_lt hr2 k hk)
      · rcases List.mem_cons.1 hr' with rfl | hr'
        · exact .inr (row_lt hr k hk)
        · exact .inl (.inl ⟨r, hr', hk⟩)
    · exact .inl (.inr hk)
  · rcases List.mem_cons.1 hr' with rfl | hr'
    · exact row_mono hr2 h.mr.hB
    · exact h1.rows r hr'
  · rcases List.mem_cons.1 hr' with rfl | hr'
    · exact hne k hk e'
    · have h2 := (row_lt hr2 k hk).1
      have h3 := h.lt (.inl ⟨r, hr', e'⟩)
      omega
  · rcases List.mem_cons.1 hr' with rfl | hr'
    · intro e'
      have h2 := (row_lt hr2 _ e').1
      have h3 := h.lt (.inr ⟨b, hb', rfl⟩)
      omega
    · exact h1.rb r hr' b hb'
theorem Scn.dump (h : Scn I B w0 w p A rd rs bs) : Calls Try.prog 16 #[p] w
    fun e w' => ∃ a c b d, e = .returned (.agg #[.slice a A.σ.cap c, .slice b A.σ.free.length d]) ∧ Scn I B w0 w' p A rd (⟨26, 1, .slice b A.σ.free.length d, A.σ.free.length, u32s A.σ.free⟩ :: ⟨92, 11, .slice a A.σ.cap c, A.σ.cap, slotsV A⟩ :: rs) bs ∧ Below w.heap.size w w' := by
  obtain ⟨F, h1, _⟩ := h.mr.has
  refine (I.dump p A rd F w h1).mono ?_
  rintro e w1 ⟨a, c, b, d, rfl, hr1, hr2, hb⟩
  exact ⟨a, c, b, d, rfl, h.row2 hb hr1 hr2 (row_ne (by decide) hr2 hr1), hb⟩
end
theorem ens_row {w : World} {B n c : Nat} {a : Option Addr} {l : List En} (hn : l.length = n) (h : w.ownsRow B 31 2 (.slice a n c) n (ensV l)) (hw : ∀ e ∈ l, i64R e.key ∧ i64R e.val) : EnsAt w a l := by
  subst hn
  exact ens_at h hw
theorem Scn.init {I : AImpl} {m n c i : Nat} {l : List En} {w w1 w2 : World} {p : Value} {A : Ar} {t : Tr} {F : Nat → Prop} {a : Option Addr} {xs : List Value} {ty : TypeId} {s : Nat} (hg : Grown I m l w1 p A i t F w2) (hb1 : Below w.heap.size w w1) (hr : w1.ownsRow w.heap.size ty s (.slice a n c) n xs) :
    Scn I w.heap.size w w2 p A 0 [⟨ty, s, .slice a n c, n, xs⟩] [] := by
  refine ⟨⟨⟨F, hg.is, fun k hk => Nat.le_trans hb1.size (hg.foot k hk), fun k hk => ?_⟩, hb1.trans (hg.below.mono hb1.size), Nat.le_trans hb1.size hg.below.size⟩, fun r hr' => ?_, fun b hb => (by cases hb), ?_, List.Pairwise.nil, fun r hr' b hb => (by cases hb)⟩
  · rcases hk with ⟨r, hr', hk⟩ | ⟨b, hb, _⟩
    · simp at hr'
      subst hr'
      have h1 := row_lt hr k hk
      exact ⟨Nat.lt_of_lt_of_le h1.2 hg.below.size, fun hF => by have := hg.foot k hF; omega⟩
    · cases hb
  · simp at hr'
    subst hr'
    exact row_below hr hg.below
  · exact List.pairwise_singleton _ _
end Go.Proofs.Ytckkmmdibgoajaa
set_option linter.unusedVariables false
namespace Go.Proofs.Ytckkmmdibgoajaa
open Go.RowKit
theorem fInfo : (Try.prog.info? 146).map (fun i => (i.zero, i.size, i.bytes)) = some (some (.agg #[.int .i64 0, .int .u32 0, .int .i64 0, .int .i64 0]), 4, 32) := by kernel_rfl
theorem i64_is' (n : Int) : IntKind.i64.wrap n = wrap64 n := by rw [IntKind.wrap_i64]; unfold wrap64; rfl
structure CSt (Z : Nat) (w2 : World) (l : List Fd) (v : Value) (wr : World) : Prop where
  val : ∃ a c, v = .slice a l.length c
  row : wr.ownsRow Z 146 4 v l.length (fdsV l)
  below : Below Z w2 wr
section
variable {Z : Nat} {w2 wr w' : World} {l : List Fd} {v v' : Value}
theorem CSt.from (h : CSt Z w2 l v wr) (hb : Below wr.heap.size wr w') (hZ : w2.heap.size = Z) : CSt Z w2 l v w' :=
  ⟨h.val, row_below h.row hb, h.below.trans (hb.mono (by have := h.below.size; omega))⟩
theorem CSt.start (w2 : World) (hZ : w2.heap.size = Z) : CSt Z w2 [] (.slice none 0 0) w2 := ⟨⟨none, 0, rfl⟩, World.ownsRow_nil _ _ _ _, Below.refl _ _⟩
theorem cell_new4 (w : World) (x y z u : Value) (t : TypeId) : ∀ j v, [x, y, z, u][j]? = some v → (w.alloc (.cells #[x, y, z, u] t)).cell? ((⟨w.heap.size, 0, none⟩ : Addr).add j) = some v := by
  intro j v hu
  match j, hu with
  | 0, hu => simp at hu; subst hu; simp [Addr.add]
  | 1, hu => simp at hu; subst hu; simp [Addr.add]
  | 2, hu => simp at hu; subst hu; simp [Addr.add]
  | 3, hu => simp at hu; subst hu; simp [Addr.add]
theorem fd_one (f : Fd) : ∀ u ∈ fdV f, u.oneCell' = true := by
  intro u hu
  simp [fdV] at hu
  rcases hu with rfl | rfl | rfl | rfl <;> rfl
/-- blocks of other types stay -/
def Others (w w' : World) : Prop := ∀ (k : Nat) (cur : Array Value) (t : TypeId), w.heap[k]? = some (.cells cur t (0, 0)) → t ≠ 146 → w'.heap[k]? = some (.cells cur t (0, 0))
theorem others_grown {n : Nat} {xs : List Value} (h : wr.ownsRow Z 146 4 v n xs) (hg : wr.grownBy w' v.ownBlock) : Others wr w' := by
  intro k cur t hk ht
  rw [hg.block k (Array.getElem?_eq_some_iff.1 hk).1 fun e => ?_]
  · exact hk
  rcases h.2 with ⟨rfl, _⟩ | ⟨g2, cap2, cur2, rfl, _, hc2, _⟩
  · simp [Value.ownBlock] at e
  · simp only [Value.ownBlock, Option.some.injEq] at e
    subst e
    rw [hk] at hc2
    simp at hc2
    exact ht hc2.2
theorem wpList_append_fd {ops : Array Oper} {rest : List Oper} {o : Oper} {a : Act} {w : World} {Q : Exit → Act → World → Prop} (hgd : o.guard = none) (s x : Operand)
    (ho : o.op = .call { callee := .builtin .append, args := #[s, x], argTypes := #[126, 126] })
    (hc : CSt Z w2 l v w) (hZ : w2.heap.size = Z) (hs : a.eval s = v) (f : Fd) (g : Nat) (hx : a.eval x = .slice (some ⟨g, 0, none⟩) 1 1)
    (hn : ∀ j u, (fdV f)[j]? = some u → w.cell? ((⟨g, 0, none⟩ : Addr).add j) = some u) (hl : l.length ≤ 100000000)
    (h : ∀ v' w', CSt Z w2 (l ++ [f]) v' w' → Others w w' → wpList Try.prog ops Q rest (a.put o.dst v') w') : wpList Try.prog ops Q (o :: rest) a w := by
  obtain ⟨i, ji, jz0, jz1, jz2⟩ := info_parts fInfo
  refine wpList_append_own _ hgd s x 126 ho Z 146 i (.agg #[.int .i64 0, .int .u32 0, .int .i64 0, .int .i64 0]) 4 32 Try.underlying126 ji jz0 jz1 jz2 rfl (by decide) v l.length (fdsV l) hs hc.row ⟨g, 0, none⟩ 1 1 (fdV f) hx rfl hn (fd_one f) (by unfold maxLen; omega) (by omega) (by have := hc.below.size; omega) ?_
  intro v' w' ho' hg _
  have h1 : CSt Z w2 (l ++ [f]) v' w' := by
    obtain ⟨a', c', hv⟩ := row_val ho'
    refine ⟨⟨a', c', by rw [List.length_append]; exact hv⟩, ?_, hc.below.grown hg (by have := hc.below.size; omega) (row_from hc.row)⟩
    rw [List.length_append, fdsV_snoc]
    exact ho'
  exact h v' w' h1 (others_grown hc.row hg)
/-- the cells of a block that holds a slot's description -/
theorem sl_cells {w : World} {g : Nat} {s : Sl} {t : TypeId} (h : w.heap[g]? = some (.cells (slV s).toArray t (0, 0))) :
    w.cell? ⟨g, 0, none⟩ = some (.bool s.on) ∧ w.cell? ⟨g, 1, none⟩ = some (.int .i64 s.cnt) ∧ w.cell? ⟨g, 2, none⟩ = some (.int .u32 s.gen) ∧
    w.cell? ⟨g, 3, none⟩ = some (.int .i64 s.nd.key) ∧ w.cell? ⟨g, 4, none⟩ = some (.int .i64 s.nd.val) ∧ w.cell? ⟨g, 5, none⟩ = some (.int .u32 (s.nd.left : Int)) ∧
    w.cell? ⟨g, 6, none⟩ = some (.int .u32 (s.nd.right : Int)) ∧ w.cell? ⟨g, 7, none⟩ = some (.int .i64 s.nd.size) ∧ w.cell? ⟨g, 8, none⟩ = some (.int .i64 s.nd.sum) ∧
    w.cell? ⟨g, 9, none⟩ = some (.int .i64 s.nd.mn) ∧ w.cell? ⟨g, 10, none⟩ = some (.int .i64 s.nd.mx) := by
  refine ⟨?_, ?_, ?_, ?_, ?_, ?_, ?_, ?_, ?_, ?_, ?_⟩ <;> (rw [cell_of_row _ _ _ _ _ _ h]; rfl)
/-- the row of findings beside the description of the slot at hand -/
structure RSt (Z : Nat) (w2 : World) (l : List Fd) (v : Value) (sb : Nat) (s : Sl) (wr : World) : Prop where
  st : CSt Z w2 l v wr
  box : wr.heap[sb]? = some (.cells (slV s).toArray 92 (0, 0))
variable {sb : Nat} {s : Sl}
theorem RSt.from (h : RSt Z w2 l v sb s wr) (hb : Below wr.heap.size wr w') (hZ : w2.heap.size = Z) : RSt Z w2 l v sb s w' :=
  ⟨h.st.from hb hZ, (hb.block _ (Array.getElem?_eq_some_iff.1 h.box).1).trans h.box⟩
theorem RSt.push {w3 : World} {l' : List Fd} (h : RSt Z w2 l v sb s wr) (hb : Below wr.heap.size wr w') (hc : CSt Z w2 l' v' w3) (ho : Others w' w3) : RSt Z w2 l' v' sb s w3 :=
  ⟨hc, ho _ _ _ ((hb.block _ (Array.getElem?_eq_some_iff.1 h.box).1).trans h.box) (by decide)⟩
theorem below_new (w : World) (o : Obj) : Below w.heap.size w (w.alloc o) := (Below.refl _ _).alloc (Nat.le_refl _) _
theorem below_chain {a b c : World} (h : Below a.heap.size a b) (h' : Below b.heap.size b c) : Below a.heap.size a c := h.trans (h'.mono h.size)
theorem opt_yes {b : Bool} {f : Fd} (h : b = true) : opt b f = [f] := by unfold opt; rw [if_pos h]
theorem opt_no {b : Bool} {f : Fd} (h : b = false) : opt b f = [] := by unfold opt; rw [h]; rfl
end
end Go.Proofs.Ytckkmmdibgoajaa
set_option linter.unusedVariables false
namespace Go.Proofs.Ytckkmmdibgoajaa
open Go.RowKit
def FdsRes (w : World) (l : List Fd) (e : Ending) (w' : World) : Prop :=
  ∃ a c, e = .returned (.slice a l.length c) ∧ w'.ownsRow w.heap.size 146 4 (.slice a l.length c) l.length (fdsV l) ∧ Below w.heap.size w w'
/-- what is asked of the reference's Check -/
def CheckSpec : Prop := ∀ (w : World) (a b ra : Option Addr) (n c d rc : Nat) (S : Nat → Sl) (fr rs : List Nat), SlotsAt w a n S → U32At w b fr → U32At w ra rs → n ≤ 65536 → fr.length ≤ 1000000 → rs.length ≤ 1000000 → ∀ R : Nat → Bool, (∀ j, j < n → (R j = true ↔ Rch S n rs (j + 1))) →
    Calls Try.prog 74 #[.agg #[.slice a n c, .slice b fr.length d], .slice ra rs.length rc] w (FdsRes w (chk S n fr rs R))
set_option maxHeartbeats 1000000 in
set_option maxRecDepth 100000 in
theorem clean_any (hchk : CheckSpec) {w : World} {a b ra : Option Addr} {n c d rc : Nat} {S : Nat → Sl} (fr rs : List Nat) (h : SlotsAt w a n S) (hf : U32At w b fr) (hr : U32At w ra rs) (hn : n ≤ 65536) (hfl : fr.length ≤ 1000000) (hl : rs.length ≤ 1000000) (R : Nat → Bool) (hR : ∀ j, j < n → (R j = true ↔ Rch S n rs (j + 1))) (h0 : chk S n fr rs R = []) :
    Calls Try.prog 43 #[.agg #[.slice a n c, .slice b fr.length d], .slice ra rs.length rc] w (Calm w (.bool true)) := by
  have hb := below_new w (Obj.cells #[Value.slice a n c, Value.slice b fr.length d] 43)
  have hh := h.below hb
  have hff := hf.below hb
  have hrr := hr.below hb
  obtain ⟨hc0, hc1⟩ := (DBox.new w a b n c fr.length d).cells
  obtain ⟨M, hM⟩ : ∃ M, fr.length = M := ⟨_, rfl⟩
  obtain ⟨L, hL⟩ : ∃ L, rs.length = L := ⟨_, rfl⟩
  have hcall := hchk _ a b ra n c d rc S fr rs hh hff hrr hn hfl hl R hR
  rw [h0] at hcall
  rw [hM, hL] at hcall
  rw [hM] at hc0 hc1 hb ⊢
  rw [hL]
  have HC := Lib.hid hcall
  have HB := Lib.hid hb
  clear h hf hr hh hff hrr hR h0 hcall hM hL hb hfl hl
  go_enter Try.func43, Try.ntmps43
  go_wp2_with fail
  refine HC.out.mono ?_
  rintro e w2 ⟨ra', rc', rfl, _, hb2⟩
  have hbb := HB.out.trans (hb2.mono HB.out.size)
  have HBB := Lib.hid hbb
  clear hb2 hbb hc0 hc1
  rw [show ([] : List Fd).length = 0 from rfl]
  go_wp2
  go_ret
  exact ⟨rfl, HBB.out⟩
set_option maxHeartbeats 1000000 in
set_option maxRecDepth 100000 in
theorem sound_any (hchk : CheckSpec) (I : AImpl) {w : World} {p : Value} {A : Ar} {rd : Int} {F : Nat → Prop} {l : List Nat} {ra : Option Addr} {rc : Nat} (h : I.Is w p A rd F) (hI : A.Inv [] (hof l)) (hA : A.Agg) (hr : U32At w ra l) (hl : l.length ≤ 1000000) (hi : ∀ x ∈ l, x = 0 ∨ A.σ.on x = true) :
    Calls Try.prog 17 #[p, .slice ra l.length rc] w (Calm w (.bool true)) := by
  obtain ⟨L, hL⟩ : ∃ L, l.length = L := ⟨_, rfl⟩
  have HL := Lib.hid hL
  rw [hL]
  have HR := Lib.hid hr
  have HI := Lib.hid hI
  have HCK : Hid (∀ R : Nat → Bool, (∀ j, j < A.σ.cap → (R j = true ↔ Rch A.sl A.σ.cap l (j + 1))) → chk A.sl A.σ.cap A.σ.free l R = []) := fun R hR => chk_sound hI hA hi hR
  have HX := Lib.hid h
  clear hL hr hI hA hi h
  go_enter Try.func17, Try.ntmps17
  go_wp2_with fail
  refine (I.dump p A rd F w HX.out).mono ?_
  rintro e w2 ⟨a, c, b, d, rfl, hs, hf, hb⟩
  have hlen := HI.out.ok.len
  have hcap := HI.out.ok.cap2
  have hsl := slots_at HI.out hs
  have hfr := row_u32 hf fun y hy => by have := (HI.out.ok.free y).1 hy; omega
  have hrr := HR.out.below hb
  have hcl := clean_any hchk (b := b) (c := c) (d := d) (rc := rc) A.σ.free l hsl hfr hrr hcap (by omega) hl (fun j => @decide (Rch A.sl A.σ.cap l (j + 1)) (Classical.propDecidable _)) (fun j hj => by simp) (HCK.out _ (fun j hj => by simp))
  rw [HL.out] at hcl
  have HCL := Lib.hid hcl
  have HB := Lib.hid hb
  clear hs hf hb hlen hcap hsl hfr hrr hcl hl
  go_wp2_with fail
  refine HCL.out.mono ?_
  rintro e w3 ⟨rfl, hb3⟩
  have hbb := HB.out.trans (hb3.mono HB.out.size)
  have HBB := Lib.hid hbb
  clear hb3 hbb
  go_wp2
  go_ret
  exact ⟨rfl, HBB.out⟩
end Go.Proofs.Ytckkmmdibgoajaa
set_option linter.unusedVariables false
set_option linter.unusedSimpArgs false
namespace Go.Proofs.Ytckkmmdibgoajaa
open Go.RowKit
theorem MR.stepA {I : AImpl} {B : Nat} {w0 w w' : World} {p : Value} {A A' : Ar} {rd rd' : Int} {G F F' : Nat → Prop} (h : MR I B w0 w p A rd G) (hF : ∀ k, F k → B ≤ k) (hG : ∀ k, G k → k < w.heap.size ∧ ¬ F k) (hal : Alters F F' w w') (hI : I.Is w' p A' rd' F') : MR I B w0 w' p A' rd' G ∧ Keeps G w w' :=
  ⟨⟨⟨F', hI, hal.from h.hB hF, hal.apart hG⟩, hal.below h.below h.hB hF, Nat.le_trans h.hB hal.size⟩, fun k hk => hal.block k (hG k hk).1 (hG k hk).2⟩
/-- a call that alters the arena: what it returns and leaves -/
def Mut (I : AImpl) (p : Value) (F : Nat → Prop) (Q : Ending → Ar → Int → Prop) (w : World) (e : Ending) (w' : World) : Prop :=
  ∃ F' A' rd', Alters F F' w w' ∧ I.Is w' p A' rd' F' ∧ Q e A' rd'
section
variable {I : AImpl} {B : Nat} {w0 w w' : World} {p : Value} {A : Ar} {rd rd' : Int} {rs : List Row} {bs : List (Nat × Obj)}
theorem Scn.stepA {A' : Ar} (h : Scn I B w0 w p A rd rs bs) (hm : MR I B w0 w' p A' rd' (SG rs bs)) (hk : Keeps (SG rs bs) w w') : Scn I B w0 w' p A' rd' rs bs :=
  ⟨hm, fun r hr => row_keep (h.rows r hr) fun k hk' => hk k (.inl ⟨r, hr, hk'⟩), fun b hb => ⟨(h.boxes b hb).1, (hk b.1 (.inr ⟨b, hb, rfl⟩)).trans (h.boxes b hb).2⟩, h.rr, h.bb, h.rb⟩
theorem Scn.mut {f : FuncId} {args : Array Value} {Q : Ending → Ar → Int → Prop} (h : Scn I B w0 w p A rd rs bs) (hc : ∀ F, I.Is w p A rd F → Calls Try.prog f args w (Mut I p F Q w)) :
    Calls Try.prog f args w fun e w' => ∃ A' rd', Q e A' rd' ∧ Scn I B w0 w' p A' rd' rs bs := by
  obtain ⟨F, f1, f2, f3⟩ := h.mr.has
  refine (hc F f1).mono ?_
  rintro e w1 ⟨F', A', rd', hal, hI, hq⟩
  have hst := h.mr.stepA f2 f3 hal hI
  exact ⟨A', rd', hq, h.stepA hst.1 hst.2⟩
theorem Scn.free (h : Scn I B w0 w p A rd rs bs) : Calls Try.prog 23 #[p] w fun e w' => e = .returned (.int .i64 (A.σ.free.length : Int)) ∧ Scn I B w0 w' p A rd rs bs := by
  obtain ⟨F, f1, f2, f3⟩ := h.mr.has
  refine (I.freeN p A rd F w f1).mono ?_
  rintro e w1 ⟨h3, q, h4⟩
  exact ⟨h3, by subst h4; exact h.calm (below_drewN (Below.refl _ _) _)⟩
theorem Scn.sound (hchk : CheckSpec) (h : Scn I B w0 w p A rd rs bs) {l : List Nat} {ra : Option Addr} {L rc : Nat} (hv : A.Inv [] (hof l)) (hA : A.Agg) (hr : U32At w ra l) (hL : l.length = L) (hl : L ≤ 1000000) (hi : ∀ x ∈ l, x = 0 ∨ A.σ.on x = true) :
    Calls Try.prog 17 #[p, .slice ra L rc] w (Calm w (.bool true)) := by
  subst hL
  obtain ⟨F, f1, _⟩ := h.mr.has
  exact sound_any hchk I f1 hv hA hr hl hi
end
/-- a dump's rows, later -/
theorem Scn.slots_of {I : AImpl} {B : Nat} {w0 w : World} {p : Value} {A A0 : Ar} {rd : Int} {rs : List Row} {bs : List (Nat × Obj)} {st : List Nat} {held : Nat → Nat} {a : Option Addr} {c N : Nat} (h : Scn I B w0 w p A rd rs bs) (hv : A0.Inv st held) (hN : A0.σ.cap = N) (hm : (⟨92, 11, .slice a N c, N, slotsV A0⟩ : Row) ∈ rs) : SlotsAt w a N A0.sl := by
  subst hN
  exact slots_at hv (h.rows _ hm)
theorem made_ens {w w' : World} {l : List En} {e : Ending} (h : MadeEns w l e w') (hw : ∀ e ∈ l, i64R e.key ∧ i64R e.val) {N : Nat} (hN : l.length = N) : ∃ a c, e = .returned (.slice a N c) ∧ EnsAt w' a l ∧ Below w.heap.size w w' := by
  subst hN
  obtain ⟨a, c, h1, h2, h3⟩ := h
  exact ⟨a, c, h1, ens_at h2 hw, h3⟩
theorem hof_nil : hof [] = fun _ => 0 := by
  funext i
  unfold hof
  split <;> simp
theorem hof_le (l : List Nat) (j : Nat) : hof l j ≤ l.length := by
  unfold hof
  split
  · exact Nat.zero_le _
  · exact List.count_le_length
end Go.Proofs.Ytckkmmdibgoajaa
set_option linter.unusedVariables false
set_option linter.unusedSimpArgs false
namespace Go.Proofs.Ytckkmmdibgoajaa
open Go.RowKit
def in64 (x : Int) : Prop := -9223372036854775808 ≤ x ∧ x ≤ 9223372036854775807
def vld (x : Int) : Prop := 0 ≤ x ∧ x ≤ 65536
instance (x : Int) : Decidable (vld x) := by unfold vld; exact inferInstance
def needI (a b c more extra factor : Int) : Int := if vld a ∧ vld b ∧ vld c then extra + factor * (xhI (a + b + c + more) + 2) else -1
theorem xhI_in {n : Int} (h0 : 0 ≤ n) (h1 : n ≤ 1000000) : 0 ≤ xhI n ∧ xhI n < 80 := by
  unfold xhI
  rw [if_pos ⟨h0, by omega⟩]
  have := (xh_spec (n := n.toNat) (by omega)).2.1
  omega
def insI (n : Int) : Int := needI n 0 0 1 0 4
def delI (n : Int) : Int := needI n 0 0 0 0 4
def joinI (l r : Int) : Int := needI l r 0 1 0 4
end Go.Proofs.Ytckkmmdibgoajaa
set_option linter.unusedVariables false
set_option linter.unusedSimpArgs false
namespace Go.Proofs.Ytckkmmdibgoajaa
open Go.RowKit
/-- j is the tree t with the entries l in B; what A had stays; one reference more, to j -/
structure Got (A : Ar) (held : Nat → Nat) (B : Ar) (j : Nat) (t : Tr) (l : List En) : Prop where
  kept : A.Kept B
  gen : ∀ i, A.σ.on i = true → B.σ.gen i = A.σ.gen i
  inv : B.Inv [] (pls held j)
  agg : B.Agg
  sub : Sub B j t
  ents : t.ents B.nd = l
  bal : t.bal = true
theorem Got.tree {A B : Ar} {held : Nat → Nat} {j : Nat} {t : Tr} {l : List En} (h : Got A held B j t l) (hu : Up l) : TreeAt B j t l := ⟨⟨_, h.inv⟩, h.agg, h.sub, h.bal, h.ents, hu⟩
theorem TreeAt.kept {A B : Ar} {held : Nat → Nat} {i : Nat} {t : Tr} {l : List En} (h : TreeAt A i t l) (hk : A.Kept B) (hB : B.Inv [] held) (hg : B.Agg) : TreeAt B i t l :=
  ⟨⟨_, hB⟩, hg, h.sub.kept hk, h.bal, (Tr.ents_kept hk h.sub).trans h.ents, h.up⟩
theorem hof_pls (l : List Nat) (i : Nat) : pls (hof l) i = hof (l ++ [i]) := by
  by_cases h : i = 0
  · subst h; rw [pls_zero, hof_zero]
  · unfold pls; rw [if_neg h, hof_more l h]
/-- numbers of 64 bits -/
def WfL (l : List En) : Prop := ∀ y ∈ l, i64R y.key ∧ i64R y.val
/-- how often Join and Concat may read -/
def joinBd (n m : Nat) : Int := 60 * ((xh (n + m + 1) : Int) + 2)
def CatQ (A : Ar) (rd : Int) (held : Nat → Nat) (L R : Nat) (ll lr : List En) (en : Ending) (B : Ar) (rd' : Int) : Prop :=
  rd ≤ rd' ∧ rd' ≤ rd + joinBd ll.length lr.length ∧ (
  ((ll = [] ∨ lr = []) ∧ ∃ t : Tr, en = .returned (.tuple #[.int .u32 ((L + R : Nat) : Int), .int .i64 0]) ∧ Got A held B (L + R) t (ll ++ lr) ∧ B.σ.free.length = A.σ.free.length) ∨
  ((ll ≠ [] ∧ lr ≠ []) ∧ ¬ Up (ll ++ lr) ∧ en = .returned (.tuple #[.int .u32 0, .int .i64 7]) ∧ B = A) ∨
  ((ll ≠ [] ∧ lr ≠ []) ∧ Up (ll ++ lr) ∧ (A.σ.free.length : Int) < joinI (ll.length : Int) (lr.length : Int) ∧ en = .returned (.tuple #[.int .u32 0, .int .i64 2]) ∧ B = A) ∨
  ((ll ≠ [] ∧ lr ≠ []) ∧ Up (ll ++ lr) ∧ joinI (ll.length : Int) (lr.length : Int) ≤ (A.σ.free.length : Int) ∧ ∃ (j : Nat) (t : Tr), en = .returned (.tuple #[.int .u32 (j : Int), .int .i64 0]) ∧ Got A held B j t (ll ++ lr)))
end Go.Proofs.Ytckkmmdibgoajaa
set_option linter.unusedVariables false
namespace Go.Proofs.Ytckkmmdibgoajaa
/-- balanced, by weights -/
def wb (a b : Nat) : Prop := a ≤ 3 * b ∧ b ≤ 3 * a
theorem wb.symm {a b : Nat} (h : wb a b) : wb b a := ⟨h.2, h.1⟩
/-- how heavy the heavy side may be -/
def hv (l r : Nat) : Prop := 3 * r ≤ 13 * l ∨ r ≤ 3 * l + 3
theorem wb_single {l r a b : Nat} (hl : 0 < l) (ha : 0 < a) (hb : 0 < b) (hr : a + b = r) (hab : wb a b) (hn : 3 * l < r) (hh : hv l r) (hs : a < 2 * b) : wb l a ∧ wb (l + a) b := by
  unfold wb hv at *
  omega
theorem wb_double {l r a b c d : Nat} (hl : 0 < l) (hb : 0 < b) (hc : 0 < c) (hd : 0 < d) (hr : a + b = r) (hab : wb a b) (hn : 3 * l < r) (hh : hv l r) (hs : 2 * b ≤ a) (hcd : wb c d) (ha : c + d = a) : wb l c ∧ wb d b ∧ wb (l + c) (d + b) := by
  unfold wb hv at *
  omega
/-- a light tree is joined to the inner side of a balanced node -/
theorem hv_join {l r x : Nat} (h : wb l r) (hx : 3 * x < l + r) : hv l (r + x) := by
  unfold wb hv at *
  omega
/-- one key less on the light side -/
theorem hv_less {l r : Nat} (h : wb (l + 1) r) : hv l r := by
  unfold wb hv at *
  omega
/-- one key more on the heavy side -/
theorem hv_more {l r : Nat} (h : wb l r) : hv l (r + 1) := by
  unfold wb hv at *
  omega
end Go.Proofs.Ytckkmmdibgoajaa
set_option linter.unusedVariables false
namespace Go.Proofs.Ytckkmmdibgoajaa
/-- the caller's references and the call's own, X -/
def plL (held : Nat → Nat) (X : List Nat) : Nat → Nat := fun i => held i + hof X i
theorem plL_nil (held : Nat → Nat) : plL held [] = held := by
  funext i
  show held i + hof [] i = held i
  rw [hof_nil]
  rfl
theorem hof_cons (x : Nat) (X : List Nat) (j : Nat) : hof (x :: X) j = hof X j + (if x ≠ 0 ∧ j = x then 1 else 0) := by
  unfold hof
  by_cases h : j = 0
  · rw [if_pos h, if_pos h, if_neg (fun q => q.1 (q.2 ▸ h))]
  · rw [if_neg h, if_neg h, List.count_cons]
    by_cases e : j = x
    · subst e; rw [if_pos (by simp), if_pos ⟨h, rfl⟩]
    · rw [if_neg (by simp; exact fun q => e q.symm), if_neg (fun q => e q.2)]
theorem plL_cons (held : Nat → Nat) (x : Nat) (X : List Nat) : plL held (x :: X) = pls (plL held X) x := by
  funext j
  rw [pls_at]
  show held j + hof (x :: X) j = held j + hof X j + _
  rw [hof_cons, Nat.add_assoc]
theorem plL_le {held : Nat → Nat} {m : Nat} (h : ∀ j, held j ≤ m) (X : List Nat) (j : Nat) : plL held X j ≤ m + X.length := by
  have h1 := h j
  have h2 := hof_le X j
  show held j + hof X j ≤ _
  omega
theorem plL_perm (held : Nat → Nat) {X Y : List Nat} (h : X.Perm Y) : plL held X = plL held Y := by
  funext j
  show held j + hof X j = held j + hof Y j
  unfold hof
  rw [h.count_eq]
theorem plL_pos {held : Nat → Nat} {x : Nat} {X : List Nat} (h : x ∈ X) (h0 : x ≠ 0) : 0 < plL held X x := by
  have := hof_pos h h0
  show 0 < held x + hof X x
  omega
theorem less_plL {held : Nat → Nat} {x : Nat} {X : List Nat} (h0 : x ≠ 0) : less (plL held (x :: X)) x = plL held X := by
  rw [plL_cons]
  funext j
  unfold less pls more
  rw [if_neg h0]
  by_cases e : j = x
  · subst e; show (if j = j then _ - 1 else _) = _; rw [if_pos rfl]; show (if j = j then _ else _) - 1 = _; rw [if_pos rfl]; omega
  · show (if j = x then _ else _) = _; rw [if_neg e]; show (if j = x then _ else _) = _; rw [if_neg e]
/-- B came of A; X: the references that the call holds -/
structure Mid (A : Ar) (held : Nat → Nat) (B : Ar) (X : List Nat) : Prop where
  base : A.Inv [] held
  bagg : A.Agg
  kept : A.Kept B
  gen : ∀ i, A.σ.on i = true → B.σ.gen i = A.σ.gen i
  inv : B.Inv [] (plL held X)
  agg : B.Agg
theorem Mid.start {A : Ar} {held : Nat → Nat} (h : A.Inv [] held) (ha : A.Agg) : Mid A held A [] := ⟨h, ha, .refl A, fun _ _ => rfl, by rw [plL_nil]; exact h, ha⟩
theorem Mid.perm {A B : Ar} {held : Nat → Nat} {X Y : List Nat} (h : Mid A held B X) (hp : X.Perm Y) : Mid A held B Y := ⟨h.base, h.bagg, h.kept, h.gen, plL_perm held hp ▸ h.inv, h.agg⟩
/-- a tree, its balance and its entries -/
structure At (B : Ar) (i : Nat) (t : Tr) (l : List En) : Prop where
  sub : Sub B i t
  bal : t.bal = true
  ents : t.ents B.nd = l
theorem TreeAt.at_ {A : Ar} {i : Nat} {t : Tr} {l : List En} (h : TreeAt A i t l) : At A i t l := ⟨h.sub, h.bal, h.ents⟩
theorem At.nil (B : Ar) : At B 0 .nil [] := ⟨.nil, rfl, rfl⟩
theorem At.kept {B C : Ar} {i : Nat} {t : Tr} {l : List En} (h : At B i t l) (hk : B.Kept C) : At C i t l := ⟨h.sub.kept hk, h.bal, (Tr.ents_kept hk h.sub).trans h.ents⟩
theorem At.size {B : Ar} {i : Nat} {t : Tr} {l : List En} (h : At B i t l) : t.size = l.length := by rw [← h.ents, Tr.ents_len]
theorem At.sz {B : Ar} {i : Nat} {t : Tr} {l : List En} (h : At B i t l) (ha : B.Agg) : B.sz i = (l.length : Int) := by rw [h.sub.size ha, h.size]
theorem At.idx {B : Ar} {i : Nat} {t : Tr} {l : List En} (h : At B i t l) : B.Idx i := h.sub.idx
/-- the empty tree is 0 -/
theorem At.zero_iff {B : Ar} {held : Nat → Nat} {i : Nat} {t : Tr} {l : List En} (h : At B i t l) : i = 0 ↔ l = [] := by
  constructor
  · rintro rfl
    have := h.size
    obtain ⟨h1, _, h3⟩ := h
    cases h1 with
    | nil => exact List.eq_nil_of_length_eq_zero this.symm
    | node _ _ _ h0 => exact absurd rfl h0
  · intro e
    have := h.size
    obtain ⟨h1, _, h3⟩ := h
    cases h1 with
    | nil => rfl
    | node _ l r _ => rw [e] at this; exact absurd this (by show l.size + r.size + 1 ≠ 0; omega)
/-- weights of two trees that a node may have -/
def wbL (l m : List En) : Prop := wb (l.length + 1) (m.length + 1)
theorem bal_wb {a b : Nat} (h : Proofs.Ytckkmmdibgoajaa.bal (a : Int) (b : Int) = true) : wb (a + 1) (b + 1) := by
  have h1 := of_decide_eq_true h
  exact ⟨by omega, by omega⟩
theorem wb_bal {a b : Nat} (ha : a ≤ 2147483647) (hb : b ≤ 2147483647) (h : wb (a + 1) (b + 1)) : Proofs.Ytckkmmdibgoajaa.bal (a : Int) (b : Int) = true :=
  decide_eq_true ⟨by omega, by omega, by omega, by omega, by have := h.1; omega, by have := h.2; omega⟩
/-- the root and its children -/
theorem At.split {B : Ar} {i : Nat} {t : Tr} {l : List En} (h : At B i t l) (h0 : i ≠ 0) :
    ∃ tl tr ll lr, t = .node i tl tr ∧ l = ll ++ ⟨(B.nd i).key, (B.nd i).val⟩ :: lr ∧ At B (B.nd i).left tl ll ∧ At B (B.nd i).right tr lr ∧ wbL ll lr := by
  obtain ⟨hs, hb, he⟩ := h
  cases hs with
  | nil => exact absurd rfl h0
  | node i tl tr _ hon hl hr =>
    unfold Tr.bal at hb
    simp only [Bool.and_eq_true] at hb
    rw [Tr.ents_node] at he
    refine ⟨tl, tr, _, _, rfl, he.symm, ⟨hl, hb.1.2, rfl⟩, ⟨hr, hb.2, rfl⟩, ?_⟩
    have h1 := bal_wb hb.1.1
    unfold wbL
    rw [Tr.ents_len, Tr.ents_len]
    exact h1
/-- a node over two trees -/
theorem At.join {B : Ar} (ha : B.Agg) {i l r : Nat} {e : En} {tl tr : Tr} {ll lr : List En} (h0 : i ≠ 0) (hon : B.σ.on i = true) (hk : (B.nd i).key = e.key ∧ (B.nd i).val = e.val ∧ (B.nd i).left = l ∧ (B.nd i).right = r)
    (hl : At B l tl ll) (hr : At B r tr lr) (hw : wbL ll lr) : At B i (.node i tl tr) (ll ++ e :: lr) := by
  obtain ⟨k1, k2, k3, k4⟩ := hk
  have hs : Sub B i (.node i tl tr) := .node i tl tr h0 hon (by rw [k3]; exact hl.sub) (by rw [k4]; exact hr.sub)
  have hz := hs.size ha
  have hm := (ha.size i hon).2
  have h1 := hl.size
  have h2 := hr.size
  have h3 : (Tr.node i tl tr).size = tl.size + tr.size + 1 := rfl
  unfold Ar.sz at hz
  rw [if_neg h0] at hz
  refine ⟨hs, ?_, ?_⟩
  · unfold Tr.bal
    rw [hl.bal, hr.bal, wb_bal (by omega) (by omega) (by rw [h1, h2]; exact hw)]
    rfl
  · rw [Tr.ents_node, hl.ents, hr.ents, k1, k2]
theorem run_gen : ∀ (f : Nat) (A : Ar) (s : List Nat), (Ar.run f A s).1.σ.gen = A.σ.gen
  | 0, A, s => rfl
  | f + 1, A, [] => rfl
  | f + 1, A, i :: t => by
    unfold Ar.run
    by_cases h0 : i = 0
    · rw [if_pos h0]; exact run_gen f A t
    · rw [if_neg h0]
      by_cases h1 : A.cnt i = 1
      · rw [if_pos h1]; exact (run_gen f (A.drop i) _).trans rfl
      · rw [if_neg h1]; exact (run_gen f (A.dec i) t).trans rfl
theorem sub_gone' {A : Ar} {r : Nat} {held : Nat → Nat} (hv : (A.gone r).Inv [] held) {i : Nat} {t : Tr} (h : Sub A i t) : (i = 0 ∨ (A.gone r).σ.on i = true) → Sub (A.gone r) i t := by
  induction h with
  | nil => exact fun _ => .nil
  | node i l r' h0 h1 hl hr ihl ihr =>
    intro hi
    have hon := hi.resolve_left h0
    have hnd : (A.gone r).nd i = A.nd i := (run_on A.fuel A [r] i hon).2
    have hc := hv.child i hon
    rw [hnd] at hc
    exact .node i l r' h0 hon (by rw [hnd]; exact ihl hc.1) (by rw [hnd]; exact ihr hc.2)
theorem ents_gone' {A : Ar} {r : Nat} {i : Nat} {t : Tr} (h : Sub (A.gone r) i t) : t.ents (A.gone r).nd = t.ents A.nd := by
  unfold Tr.ents
  exact List.map_congr_left fun j hj => by
    have e : (A.gone r).nd j = A.nd j := (run_on A.fuel A [r] j (h.on j hj)).2
    rw [e]
theorem At.gone {B : Ar} {r i : Nat} {t : Tr} {l : List En} {held : Nat → Nat} (h : At B i t l) (hv : (B.gone r).Inv [] held) (hi : (B.gone r).Idx i) : At (B.gone r) i t l := by
  have hs := sub_gone' hv h.sub hi
  exact ⟨hs, h.bal, (ents_gone' hs).trans h.ents⟩
/-- what the caller holds stays where a reference of the call's is given back -/
theorem Mid.give {A B : Ar} {held : Nat → Nat} {x : Nat} {X : List Nat} (h : Mid A held B (x :: X)) :
    B.Inv [x] (plL held X) ∧ B.Idx x ∧ Mid A held (B.gone x) X ∧ B.σ.free.length ≤ (B.gone x).σ.free.length ∧ (∀ i, i ∈ X → B.Idx i → (B.gone x).Idx i) ∧ ∀ i, (B.gone x).σ.on i = true → B.σ.on i = true ∧ (B.gone x).nd i = B.nd i := by
  have hx : B.Idx x := by
    by_cases h0 : x = 0
    · exact .inl h0
    · exact .inr (h.inv.held x (plL_pos (List.mem_cons_self ..) h0))
  have hv : B.Inv [x] (plL held X) := by
    by_cases h0 : x = 0
    · subst h0
      have e : plL held (0 :: X) = plL held X := by rw [plL_cons]; rfl
      exact (e ▸ h.inv).give0
    · rw [← less_plL h0]
      exact h.inv.give (plL_pos (List.mem_cons_self ..) h0)
  obtain ⟨g1, g2, g3, g4⟩ := Ar.gone_ok hv h.agg
  have hon : ∀ i, (B.gone x).σ.on i = true → B.σ.on i = true ∧ (B.gone x).nd i = B.nd i := fun i hi => run_on B.fuel B [x] i hi
  have hr : ∀ i, A.Reach held i → (B.gone x).Idx i := fun i hi => by
    induction hi with
    | root i hi => exact .inr (g1.held i (by show 0 < held i + _; omega))
    | left k hk _ ih =>
      have hne : k ≠ 0 := fun e => by have := h.base.ok.on k hk; omega
      have h2 := ih.resolve_left hne
      have h3 := (g1.child k h2).1
      rw [(hon k h2).2, h.kept.nd k hk] at h3
      exact h3
    | right k hk _ ih =>
      have hne : k ≠ 0 := fun e => by have := h.base.ok.on k hk; omega
      have h2 := ih.resolve_left hne
      have h3 := (g1.child k h2).2
      rw [(hon k h2).2, h.kept.nd k hk] at h3
      exact h3
  have hA : ∀ i, A.σ.on i = true → (B.gone x).σ.on i = true := fun i hi => by
    have h1 := Ar.reach_all h.base h.bagg ((2147483647 - (A.nd i).size).toNat + 1) i hi (by have := (h.bagg.size i hi).2; omega)
    exact (hr i h1).resolve_left fun e => by have := h.base.ok.on i hi; omega
  refine ⟨hv, hx, ⟨h.base, h.bagg, ⟨g3.trans h.kept.cap, hA, fun i hi => (hon i (hA i hi)).2.trans (h.kept.nd i hi)⟩, fun i hi => ?_, g1, g2⟩, by omega, fun i hi hi2 => ?_, hon⟩
  · have e : (B.gone x).σ.gen = B.σ.gen := run_gen B.fuel B [x]
    rw [e]
    exact h.gen i hi
  · by_cases h0 : i = 0
    · exact .inl h0
    · exact .inr (g1.held i (plL_pos hi h0))
theorem Mid.made {A B : Ar} {held : Nat → Nat} {X : List Nat} (h : Mid A held B X) {i : Nat} {t : List Nat} (hf : B.σ.free = i :: t) {key val : Int} {l r : Nat} (hl : B.Idx l) (hr : B.Idx r) (hs : (B.node key val l r).size ≤ 2147483647) :
    Mid A held (B.made i t (B.node key val l r)) (i :: X) ∧ B.Kept (B.made i t (B.node key val l r)) ∧ (B.made i t (B.node key val l r)).σ.free = t ∧ i ≠ 0 ∧ (B.made i t (B.node key val l r)).σ.on i = true ∧ (B.made i t (B.node key val l r)).nd i = B.node key val l r := by
  have hi := (h.inv.ok.free i).1 (by rw [hf]; simp)
  have hne : ∀ j, B.σ.on j = true → j ≠ i := fun j hj e => by subst e; rw [hi.2.2] at hj; cases hj
  have h0 : i ≠ 0 := by omega
  have hk := Ar.Kept.made (B.node key val l r) h.inv hf
  refine ⟨⟨h.base, h.bagg, h.kept.trans hk, fun j hj => ?_, ?_, h.agg.made h.inv hf hl hr hs⟩, hk, rfl, h0, take_same _ _ _, if_pos rfl⟩
  · show (B.σ.take i t).gen j = A.σ.gen j
    unfold St.take
    simp [hne j (h.kept.on j hj), h.gen j hj]
  · rw [plL_cons]
    unfold pls
    rw [if_neg h0]
    exact h.inv.made hf hl hr
theorem Mid.ret {A B : Ar} {held : Nat → Nat} {X : List Nat} (h : Mid A held B X) {i : Nat} (hi : B.Idx i) : Mid A held (B.ret i) (i :: X) ∧ B.Kept (B.ret i) ∧ (B.ret i).σ = B.σ ∧ (B.ret i).nd = B.nd := by
  by_cases h0 : i = 0
  · subst h0
    have e : B.ret 0 = B := if_pos rfl
    have e2 : plL held (0 :: X) = plL held X := by rw [plL_cons]; rfl
    rw [e]
    exact ⟨⟨h.base, h.bagg, h.kept, h.gen, e2.symm ▸ h.inv, h.agg⟩, .refl B, rfl, rfl⟩
  · have hon := hi.resolve_left h0
    have e : B.ret i = B.inc i := if_neg h0
    rw [e]
    refine ⟨⟨h.base, h.bagg, h.kept.trans ⟨rfl, fun _ q => q, fun _ _ => rfl⟩, h.gen, ?_, h.agg.inc i⟩, ⟨rfl, fun _ q => q, fun _ _ => rfl⟩, rfl, rfl⟩
    rw [plL_cons]
    unfold pls
    rw [if_neg h0]
    exact h.inv.inc hon
theorem Mid.rot {A B C : Ar} {held : Nat → Nat} {X : List Nat} {j n : Nat} (h : Mid A held B X) (ht : Turned B (plL held X) C j n) : Mid A held C (j :: X) ∧ B.Kept C ∧ C.σ.free.length + n = B.σ.free.length ∧ j ≠ 0 := by
  have h0 : j ≠ 0 := fun e => by
    have h1 := ht.inv.held j (by unfold more; rw [if_pos rfl]; omega)
    have := ht.inv.ok.on j h1
    omega
  refine ⟨⟨h.base, h.bagg, h.kept.trans ht.kept, fun i hi => (ht.gen i (h.kept.on i hi)).trans (h.gen i hi), ?_, ht.agg⟩, ht.kept, ht.free, h0⟩
  rw [plL_cons]
  unfold pls
  rw [if_neg h0]
  exact ht.inv
/-- the call ends with one tree -/
theorem Mid.got {A B : Ar} {held : Nat → Nat} {j : Nat} {t : Tr} {l : List En} (h : Mid A held B [j]) (ha : At B j t l) : Got A held B j t l :=
  ⟨h.kept, h.gen, by have := h.inv; rw [plL_cons, plL_nil] at this; exact this, h.agg, ha.sub, ha.ents, ha.bal⟩
/-- a call of such a function in the midst of another -/
theorem Mid.nest {A B C : Ar} {held : Nat → Nat} {X Y : List Nat} (h : Mid A held B X) (h2 : Mid B (plL held X) C Y) : Mid A held C (Y ++ X) := by
  refine ⟨h.base, h.bagg, h.kept.trans h2.kept, fun i hi => (h2.gen i (h.kept.on i hi)).trans (h.gen i hi), ?_, h2.agg⟩
  have e : plL held (Y ++ X) = plL (plL held X) Y := by
    funext j
    show held j + hof (Y ++ X) j = held j + hof X j + hof Y j
    unfold hof
    split
    · rfl
    · rw [List.count_append]; omega
  rw [e]
  exact h2.inv
theorem NewIn.nz {B C : Ar} {hd : Nat → Nat} (hv : C.Inv [] hd) {j : Nat} (h : NewIn B C j) : j ≠ 0 := by
  have := hv.ok.on j h.1
  omega
/-- the single rotation leaves both nodes balanced -/
def sgl (l inner outer : Int) : Bool := Proofs.Ytckkmmdibgoajaa.bal l inner && Proofs.Ytckkmmdibgoajaa.bal (l + 1 + inner) outer
theorem sgl_wb {l a b : Nat} (h : sgl (l : Int) (a : Int) (b : Int) = true) : wb (l + 1) (a + 1) ∧ wb (l + 1 + (a + 1)) (b + 1) := by
  unfold sgl at h
  rw [Bool.and_eq_true] at h
  have h1 := bal_wb h.1
  have h2 := bal_wb (a := l + 1 + a) (b := b) (by have := h.2; rw [Int.natCast_add, Int.natCast_add]; exact this)
  exact ⟨h1, by rw [← Nat.add_assoc]; exact h2⟩
theorem wb_sgl {l a b : Nat} (hs : l + a + b + 2 ≤ 2147483647) (h1 : wb (l + 1) (a + 1)) (h2 : wb (l + 1 + (a + 1)) (b + 1)) : sgl (l : Int) (a : Int) (b : Int) = true := by
  unfold sgl
  rw [Bool.and_eq_true]
  have h3 := wb_bal (a := l + 1 + a) (b := b) (by omega) (by omega) (by rw [Nat.add_assoc]; exact h2)
  rw [Int.natCast_add, Int.natCast_add] at h3
  exact ⟨wb_bal (by omega) (by omega) h1, h3⟩
/-- the right side is too heavy: which rotation, and what it makes -/
theorem heavy_right {B : Ar} {hd : Nat → Nat} (hI : B.Inv [] hd) (ha : B.Agg) {i L R : Nat} {e : En} {tl tr : Tr} {ll lr : List En} (hon : B.σ.on i = true) (hn : (B.nd i).key = e.key ∧ (B.nd i).val = e.val ∧ (B.nd i).left = L ∧ (B.nd i).right = R)
    (hL : At B L tl ll) (hR : At B R tr lr) (hw : 3 * (ll.length + 1) < lr.length + 1) (hh : hv (ll.length + 1) (lr.length + 1)) (hsz : ll.length + lr.length + 1 ≤ 2147483647) :
    B.σ.on R = true ∧ 0 ≤ B.sz (B.nd R).left ∧ 0 ≤ B.sz (B.nd R).right ∧
    (sgl (ll.length : Int) (B.sz (B.nd R).left) (B.sz (B.nd R).right) = true → rform B 0 i = true ∧ ∀ C hd' j, B.Kept C → C.Inv [] hd' → C.Agg → RNodes B C 0 i j → ∃ t, At C j t (ll ++ e :: lr)) ∧
    (sgl (ll.length : Int) (B.sz (B.nd R).left) (B.sz (B.nd R).right) = false → rform B 2 i = true ∧ ∀ C hd' j, B.Kept C → C.Inv [] hd' → C.Agg → RNodes B C 2 i j → ∃ t, At C j t (ll ++ e :: lr)) := by
  obtain ⟨n1, n2, n3, n4⟩ := hn
  have hR0 : R ≠ 0 := fun h0 => by
    have := (hR.zero_iff (held := hd)).1 h0
    subst this
    simp at hw
  have hRon := hR.idx.resolve_left hR0
  obtain ⟨ta, tb, la, lb, rfl, rfl, hA, hB, hab⟩ := hR.split hR0
  have za := hA.sz ha
  have zb := hB.sz ha
  have hln : (la ++ (⟨(B.nd R).key, (B.nd R).val⟩ : En) :: lb).length + 1 = (la.length + 1) + (lb.length + 1) := by simp; omega
  rw [hln] at hw hh
  have hss : sgl (ll.length : Int) (B.sz (B.nd R).left) (B.sz (B.nd R).right) = true → wb (ll.length + 1) (la.length + 1) ∧ wb (ll.length + 1 + (la.length + 1)) (lb.length + 1) := fun q => by
    rw [za, zb] at q
    exact sgl_wb q
  have hdd : sgl (ll.length : Int) (B.sz (B.nd R).left) (B.sz (B.nd R).right) = false → 2 * (B.sz (B.nd R).right + 1) ≤ B.sz (B.nd R).left + 1 := fun q => by
    rcases Nat.lt_or_ge (la.length + 1) (2 * (lb.length + 1)) with hc | hc
    · obtain ⟨w1, w2⟩ := wb_single (l := ll.length + 1) (r := (la.length + 1) + (lb.length + 1)) (a := la.length + 1) (b := lb.length + 1) (by omega) (by omega) (by omega) rfl hab hw hh hc
      rw [za, zb, wb_sgl (by omega) w1 w2] at q
      cases q
    · omega
  refine ⟨hRon, by omega, by omega, fun hs => ?_, fun hs => ?_⟩
  · refine ⟨by unfold rform; rw [hon]; simp [n4, hR0], fun C hd' j hk hv' ha' hr => ?_⟩
    obtain ⟨z, j1, z1, m1, m2⟩ := hr
    rw [n4] at m1 m2
    obtain ⟨w1, w2⟩ := hss hs
    obtain ⟨a1, a2, a3, a4⟩ := m1
    obtain ⟨b1, b2, b3, b4⟩ := m2
    have hz := At.join ha' (z1.nz hv') z1.1 (e := e) (l := L) (r := (B.nd R).left) ⟨b1.trans n1, b2.trans n2, b3.trans n3, b4⟩ (hL.kept hk) (hA.kept hk) w1
    have hj := At.join ha' (j1.nz hv') j1.1 (e := ⟨(B.nd R).key, (B.nd R).val⟩) ⟨a1, a2, a3, a4⟩ hz (hB.kept hk) (by unfold wbL; rw [show (ll ++ e :: la).length + 1 = ll.length + 1 + (la.length + 1) by simp; omega]; exact w2)
    exact ⟨_, by rw [show ll ++ e :: (la ++ (⟨(B.nd R).key, (B.nd R).val⟩ : En) :: lb) = (ll ++ e :: la) ++ ⟨(B.nd R).key, (B.nd R).val⟩ :: lb by simp]; exact hj⟩
  · have hs := hdd hs
    have hA0 : (B.nd R).left ≠ 0 := fun h0 => by
      have := (hA.zero_iff (held := hd)).1 h0
      subst this
      simp at za
      omega
    have hAon := hA.idx.resolve_left hA0
    obtain ⟨tc, td, lc, ld, rfl, rfl, hC, hD, hcd⟩ := hA.split hA0
    have hln2 : (lc ++ (⟨(B.nd (B.nd R).left).key, (B.nd (B.nd R).left).val⟩ : En) :: ld).length + 1 = (lc.length + 1) + (ld.length + 1) := by simp; omega
    refine ⟨by unfold rform; rw [hon]; simp [n4, hR0, hA0], fun C hd' j hk hv' ha' hr => ?_⟩
    obtain ⟨y, z, hyz, j1, y1, z1, m1, m2, m3⟩ := hr
    rw [n4] at m1 m2 m3
    obtain ⟨w1, w2, w3⟩ := wb_double (l := ll.length + 1) (r := (lc.length + 1) + (ld.length + 1) + (lb.length + 1)) (a := (lc.length + 1) + (ld.length + 1)) (b := lb.length + 1) (c := lc.length + 1) (d := ld.length + 1) (by omega) (by omega) (by omega) (by omega) rfl (by rw [← hln2]; exact hab) (by rw [← hln2]; exact hw) (by rw [← hln2]; exact hh) (by rw [← hln2]; omega) hcd rfl
    obtain ⟨a1, a2, a3, a4⟩ := m1
    obtain ⟨b1, b2, b3, b4⟩ := m2
    obtain ⟨c1, c2, c3, c4⟩ := m3
    have hy := At.join ha' (y1.nz hv') y1.1 (e := e) (l := L) (r := (B.nd (B.nd R).left).left) ⟨b1.trans n1, b2.trans n2, b3.trans n3, b4⟩ (hL.kept hk) (hC.kept hk) w1
    have hz := At.join ha' (z1.nz hv') z1.1 (e := ⟨(B.nd R).key, (B.nd R).val⟩) ⟨c1, c2, c3, c4⟩ (hD.kept hk) (hB.kept hk) w2
    have hj := At.join ha' (j1.nz hv') j1.1 (e := ⟨(B.nd (B.nd R).left).key, (B.nd (B.nd R).left).val⟩) ⟨a1, a2, a3, a4⟩ hy hz (by unfold wbL; rw [show (ll ++ e :: lc).length + 1 = ll.length + 1 + (lc.length + 1) by simp; omega, show (ld ++ (⟨(B.nd R).key, (B.nd R).val⟩ : En) :: lb).length + 1 = ld.length + 1 + (lb.length + 1) by simp; omega]; exact w3)
    exact ⟨_, by rw [show ll ++ e :: ((lc ++ (⟨(B.nd (B.nd R).left).key, (B.nd (B.nd R).left).val⟩ : En) :: ld) ++ (⟨(B.nd R).key, (B.nd R).val⟩ : En) :: lb) = (ll ++ e :: lc) ++ ⟨(B.nd (B.nd R).left).key, (B.nd (B.nd R).left).val⟩ :: (ld ++ ⟨(B.nd R).key, (B.nd R).val⟩ :: lb) by simp]; exact hj⟩
/-- the left side is too heavy -/
theorem heavy_left {B : Ar} {hd : Nat → Nat} (hI : B.Inv [] hd) (ha : B.Agg) {i L R : Nat} {e : En} {tl tr : Tr} {ll lr : List En} (hon : B.σ.on i = true) (hn : (B.nd i).key = e.key ∧ (B.nd i).val = e.val ∧ (B.nd i).left = L ∧ (B.nd i).right = R)
    (hL : At B L tl ll) (hR : At B R tr lr) (hw : 3 * (lr.length + 1) < ll.length + 1) (hh : hv (lr.length + 1) (ll.length + 1)) (hsz : ll.length + lr.length + 1 ≤ 2147483647) :
    B.σ.on L = true ∧ 0 ≤ B.sz (B.nd L).left ∧ 0 ≤ B.sz (B.nd L).right ∧
    (sgl (lr.length : Int) (B.sz (B.nd L).right) (B.sz (B.nd L).left) = true → rform B 1 i = true ∧ ∀ C hd' j, B.Kept C → C.Inv [] hd' → C.Agg → RNodes B C 1 i j → ∃ t, At C j t (ll ++ e :: lr)) ∧
    (sgl (lr.length : Int) (B.sz (B.nd L).right) (B.sz (B.nd L).left) = false → rform B 3 i = true ∧ ∀ C hd' j, B.Kept C → C.Inv [] hd' → C.Agg → RNodes B C 3 i j → ∃ t, At C j t (ll ++ e :: lr)) := by
  obtain ⟨n1, n2, n3, n4⟩ := hn
  have hL0 : L ≠ 0 := fun h0 => by
    have := (hL.zero_iff (held := hd)).1 h0
    subst this
    simp at hw
  have hLon := hL.idx.resolve_left hL0
  obtain ⟨tb, ta, lb, la, rfl, rfl, hB, hA, hab⟩ := hL.split hL0
  have za := hA.sz ha
  have zb := hB.sz ha
  have hln : (lb ++ (⟨(B.nd L).key, (B.nd L).val⟩ : En) :: la).length + 1 = (la.length + 1) + (lb.length + 1) := by simp; omega
  rw [hln] at hw hh
  have hab' : wb (la.length + 1) (lb.length + 1) := wb.symm hab
  have hss : sgl (lr.length : Int) (B.sz (B.nd L).right) (B.sz (B.nd L).left) = true → wb (lr.length + 1) (la.length + 1) ∧ wb (lr.length + 1 + (la.length + 1)) (lb.length + 1) := fun q => by
    rw [za, zb] at q
    exact sgl_wb q
  have hdd : sgl (lr.length : Int) (B.sz (B.nd L).right) (B.sz (B.nd L).left) = false → 2 * (B.sz (B.nd L).left + 1) ≤ B.sz (B.nd L).right + 1 := fun q => by
    rcases Nat.lt_or_ge (la.length + 1) (2 * (lb.length + 1)) with hc | hc
    · obtain ⟨w1, w2⟩ := wb_single (l := lr.length + 1) (r := (la.length + 1) + (lb.length + 1)) (a := la.length + 1) (b := lb.length + 1) (by omega) (by omega) (by omega) rfl hab' hw hh hc
      rw [za, zb, wb_sgl (by omega) w1 w2] at q
      cases q
    · omega
  refine ⟨hLon, by omega, by omega, fun hs => ?_, fun hs => ?_⟩
  · refine ⟨by unfold rform; rw [hon]; simp [n3, hL0], fun C hd' j hk hv' ha' hr => ?_⟩
    obtain ⟨z, j1, z1, m1, m2⟩ := hr
    rw [n3] at m1 m2
    obtain ⟨w1, w2⟩ := hss hs
    obtain ⟨a1, a2, a3, a4⟩ := m1
    obtain ⟨b1, b2, b3, b4⟩ := m2
    have hz := At.join ha' (z1.nz hv') z1.1 (e := e) (l := (B.nd L).right) (r := R) ⟨b1.trans n1, b2.trans n2, b3, b4.trans n4⟩ (hA.kept hk) (hR.kept hk) (wb.symm w1)
    have hj := At.join ha' (j1.nz hv') j1.1 (e := ⟨(B.nd L).key, (B.nd L).val⟩) ⟨a1, a2, a3, a4⟩ (hB.kept hk) hz (by unfold wbL; rw [show (la ++ e :: lr).length + 1 = lr.length + 1 + (la.length + 1) by simp; omega]; exact wb.symm w2)
    exact ⟨_, by rw [show (lb ++ (⟨(B.nd L).key, (B.nd L).val⟩ : En) :: la) ++ e :: lr = lb ++ ⟨(B.nd L).key, (B.nd L).val⟩ :: (la ++ e :: lr) by simp]; exact hj⟩
  · have hs := hdd hs
    have hA0 : (B.nd L).right ≠ 0 := fun h0 => by
      have := (hA.zero_iff (held := hd)).1 h0
      subst this
      simp at za
      omega
    have hAon := hA.idx.resolve_left hA0
    obtain ⟨td, tc, ld, lc, rfl, rfl, hD, hC, hcd⟩ := hA.split hA0
    have hln2 : (ld ++ (⟨(B.nd (B.nd L).right).key, (B.nd (B.nd L).right).val⟩ : En) :: lc).length + 1 = (lc.length + 1) + (ld.length + 1) := by simp; omega
    refine ⟨by unfold rform; rw [hon]; simp [n3, hL0, hA0], fun C hd' j hk hv' ha' hr => ?_⟩
    obtain ⟨y, z, hyz, j1, y1, z1, m1, m2, m3⟩ := hr
    rw [n3] at m1 m2 m3
    obtain ⟨w1, w2, w3⟩ := wb_double (l := lr.length + 1) (r := (lc.length + 1) + (ld.length + 1) + (lb.length + 1)) (a := (lc.length + 1) + (ld.length + 1)) (b := lb.length + 1) (c := lc.length + 1) (d := ld.length + 1) (by omega) (by omega) (by omega) (by omega) rfl (by rw [← hln2]; exact hab') (by rw [← hln2]; exact hw) (by rw [← hln2]; exact hh) (by rw [← hln2]; omega) (wb.symm hcd) rfl
    obtain ⟨a1, a2, a3, a4⟩ := m1
    obtain ⟨b1, b2, b3, b4⟩ := m2
    obtain ⟨c1, c2, c3, c4⟩ := m3
    have hy := At.join ha' (y1.nz hv') y1.1 (e := ⟨(B.nd L).key, (B.nd L).val⟩) ⟨b1, b2, b3, b4⟩ (hB.kept hk) (hD.kept hk) (wb.symm w2)
    have hz := At.join ha' (z1.nz hv') z1.1 (e := e) (l := (B.nd (B.nd L).right).right) (r := R) ⟨c1.trans n1, c2.trans n2, c3, c4.trans n4⟩ (hC.kept hk) (hR.kept hk) (wb.symm w1)
    have hj := At.join ha' (j1.nz hv') j1.1 (e := ⟨(B.nd (B.nd L).right).key, (B.nd (B.nd L).right).val⟩) ⟨a1, a2, a3, a4⟩ hy hz (by unfold wbL; rw [show (lc ++ e :: lr).length + 1 = lr.length + 1 + (lc.length + 1) by simp; omega, show (lb ++ (⟨(B.nd L).key, (B.nd L).val⟩ : En) :: ld).length + 1 = ld.length + 1 + (lb.length + 1) by simp; omega]; exact wb.symm w3)
    exact ⟨_, by rw [show (lb ++ (⟨(B.nd L).key, (B.nd L).val⟩ : En) :: (ld ++ (⟨(B.nd (B.nd L).right).key, (B.nd (B.nd L).right).val⟩ : En) :: lc)) ++ e :: lr = (lb ++ ⟨(B.nd L).key, (B.nd L).val⟩ :: ld) ++ ⟨(B.nd (B.nd L).right).key, (B.nd (B.nd L).right).val⟩ :: (lc ++ e :: lr) by simp]; exact hj⟩
end Go.Proofs.Ytckkmmdibgoajaa
set_option linter.unusedVariables false
namespace Go.Proofs.Ytckkmmdibgoajaa
theorem xh_up {m n : Nat} (h : m ≤ n) (hn : n ≤ 2147483647) : xh m ≤ xh n := xh_le hn (by have := (xh_spec (n := m) (by omega)).1; omega)
/-- a third more keys: a level more -/
theorem xh_grow {c b : Nat} (h : 4 * (c + 1) ≤ 3 * (b + 1)) (hb : b ≤ 2147483647) : xh c + 1 ≤ xh b := by
  have h1 := (xh_spec (n := c) (by omega)).1
  have h2 := wt_pos (xh c)
  refine xh_le hb ?_
  rw [wt_succ]
  omega
/-- how many levels a join goes down on the left of a tree, the other one having n keys -/
def jdl (n : Nat) : Tr → Nat
  | .nil => 0
  | .node _ l r => if 3 * (n + 1) < l.size + r.size + 2 then 1 + jdl n l else 0
/-- on the right -/
def jdr (n : Nat) : Tr → Nat
  | .nil => 0
  | .node _ l r => if 3 * (n + 1) < l.size + r.size + 2 then 1 + jdr n r else 0
theorem jdl_le {n : Nat} : ∀ {t : Tr}, t.bal = true → t.size ≤ 2147483647 → jdl n t = 0 ∨ (3 * (n + 1) < t.size + 1 ∧ jdl n t + xh n ≤ xh t.size)
  | .nil, _, _ => .inl rfl
  | .node i l r, hb, hs => by
    unfold Tr.bal at hb
    simp only [Bool.and_eq_true] at hb
    have hw := bal_wb hb.1.1
    have hz : (Tr.node i l r).size = l.size + r.size + 1 := rfl
    rw [hz] at hs ⊢
    unfold jdl
    by_cases hc : 3 * (n + 1) < l.size + r.size + 2
    · rw [if_pos hc]
      right
      have h1 := xh_grow (c := l.size) (b := l.size + r.size + 1) (by have := hw.1; omega) hs
      have h2 := xh_grow (c := n) (b := l.size + r.size + 1) (by omega) hs
      refine ⟨by omega, ?_⟩
      rcases jdl_le (n := n) (t := l) hb.1.2 (by omega) with h | ⟨_, h⟩
      · rw [h]; omega
      · omega
    · rw [if_neg hc]; exact .inl rfl
theorem jdr_le {n : Nat} : ∀ {t : Tr}, t.bal = true → t.size ≤ 2147483647 → jdr n t = 0 ∨ (3 * (n + 1) < t.size + 1 ∧ jdr n t + xh n ≤ xh t.size)
  | .nil, _, _ => .inl rfl
  | .node i l r, hb, hs => by
    unfold Tr.bal at hb
    simp only [Bool.and_eq_true] at hb
    have hw := bal_wb hb.1.1
    have hz : (Tr.node i l r).size = l.size + r.size + 1 := rfl
    rw [hz] at hs ⊢
    unfold jdr
    by_cases hc : 3 * (n + 1) < l.size + r.size + 2
    · rw [if_pos hc]
      right
      have h1 := xh_grow (c := r.size) (b := l.size + r.size + 1) (by have := hw.2; omega) hs
      have h2 := xh_grow (c := n) (b := l.size + r.size + 1) (by omega) hs
      refine ⟨by omega, ?_⟩
      rcases jdr_le (n := n) (t := r) hb.2 (by omega) with h | ⟨_, h⟩
      · rw [h]; omega
      · omega
    · rw [if_neg hc]; exact .inl rfl
/-- the levels of a join of two trees -/
def jd (t u : Tr) : Nat := if 3 * (t.size + 1) < u.size + 1 then jdl t.size u else jdr u.size t
/-- a join goes down at most as far as the heights differ -/
theorem jd_le {t u : Tr} (ht : t.bal = true) (hu : u.bal = true) (hs : t.size + u.size ≤ 2147483647) :
    (wb (t.size + 1) (u.size + 1) ∧ jd t u = 0) ∨ (3 * (t.size + 1) < u.size + 1 ∧ jd t u + xh t.size ≤ xh u.size) ∨ (3 * (u.size + 1) < t.size + 1 ∧ jd t u + xh u.size ≤ xh t.size) := by
  unfold jd
  by_cases h1 : 3 * (t.size + 1) < u.size + 1
  · rw [if_pos h1]
    refine .inr (.inl ⟨h1, ?_⟩)
    rcases jdl_le (n := t.size) hu (by omega) with h | ⟨_, h⟩
    · rw [h]; have := xh_up (m := t.size) (n := u.size) (by omega) (by omega); omega
    · exact h
  · rw [if_neg h1]
    by_cases h2 : 3 * (u.size + 1) < t.size + 1
    · refine .inr (.inr ⟨h2, ?_⟩)
      rcases jdr_le (n := u.size) ht (by omega) with h | ⟨_, h⟩
      · rw [h]; have := xh_up (m := u.size) (n := t.size) (by omega) (by omega); omega
      · exact h
    · refine .inl ⟨⟨by omega, by omega⟩, ?_⟩
      rcases jdr_le (n := u.size) ht (by omega) with h | ⟨h, _⟩
      · exact h
      · omega
theorem jd_xh {t u : Tr} (ht : t.bal = true) (hu : u.bal = true) (hs : t.size + u.size + 1 ≤ 2147483647) : jd t u ≤ xh (t.size + u.size + 1) := by
  have h1 := xh_up (m := t.size) (n := t.size + u.size + 1) (by omega) hs
  have h2 := xh_up (m := u.size) (n := t.size + u.size + 1) (by omega) hs
  rcases jd_le ht hu (by omega) with ⟨_, h⟩ | ⟨_, h⟩ | ⟨_, h⟩ <;> omega
end Go.Proofs.Ytckkmmdibgoajaa
