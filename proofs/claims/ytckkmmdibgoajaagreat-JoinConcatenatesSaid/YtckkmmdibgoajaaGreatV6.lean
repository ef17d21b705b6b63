/- Of the proofs of UpdateInserts, UpdateDeletes, JoinJoins, JoinConcatenates, JoinSplits: KitList, LkCon, Scene, ChkS, SoundW, ScnMut, RefRsv, Got, BalW. -/
import Derived.Test.YtckkmmdibgoajaaGreatV1
import Derived.Test.YtckkmmdibgoajaaGreatV2
import Derived.Test.YtckkmmdibgoajaaGreatV3
import Derived.Test.YtckkmmdibgoajaaGreatV4
import Derived.Test.YtckkmmdibgoajaaGreatV5
import Derived.Deep.DeepCutAuto
set_option linter.unusedVariables false
set_option linter.unusedSimpArgs false
namespace Go.Proofs.YtckkmmdibgoajaaGreat
open Go.RowKit
def InsRel (Z : Nat) (w2 : World) (l : List En) (e : En) (x d i : Value) (wr : World) : Prop :=
  ∃ (o : List En) (db : Bool) (j : Nat), i = .int .i64 (j : Int) ∧ d = .bool db ∧ j ≤ l.length ∧ ESt Z w2 o x wr ∧ o ++ insF e (l.drop j) db = insE l e
theorem below_new7e (w : World) (o : Obj) : Below w.heap.size w (w.alloc o) := (Below.refl _ _).alloc (Nat.le_refl _) _
theorem insF_cons (e x : En) (t : List En) (d : Bool) : insF e (x :: t) d = (if (!d && decide (e.key ≤ x.key)) = true then [e] else []) ++ (if x.key ≠ e.key then [x] else []) ++ insF e t (d || (!d && decide (e.key ≤ x.key))) := rfl
set_option maxHeartbeats 4000000 in
set_option maxRecDepth 100000 in
theorem insert_any {w : World} {a : Option Addr} {c : Nat} {l : List En} (e : En) (h : EnsAt w a l) (he : i64R e.key ∧ i64R e.val) (hl : l.length ≤ 1000000) :
    Calls Tryz.prog 24 #[.slice a l.length c, .agg #[.int .i64 e.key, .int .i64 e.val]] w (MadeEns w (insE l e)) := by
  obtain ⟨n, hn⟩ : ∃ n, l.length = n := ⟨_, rfl⟩
  have hb1 : Below w.heap.size w (w.alloc (Obj.cells #[Value.int .i64 e.key, Value.int .i64 e.val] 25)) := (Below.refl _ _).alloc (Nat.le_refl _) _
  have hbox := heap_alloc_new w (Obj.cells #[Value.int .i64 e.key, Value.int .i64 e.val] 25)
  have HB := Lib.hid hb1
  have HBOX := Lib.hid hbox
  have HE := Lib.hid (h.below hb1)
  have HN := Lib.hid hn
  have hni : (n : Int) ≤ 1000000 := by omega
  rw [hn]
  clear hb1 hbox hl hn h
  go_enter Tryz.func24, Tryz.ntmps24
  go_upto_region 1 with fail
  generalize w.alloc (Obj.cells #[Value.int .i64 e.key, Value.int .i64 e.val] 25) = w2 at HB HBOX HE ⊢
  obtain ⟨q, hq⟩ : ∃ q, w.heap.size = q := ⟨_, rfl⟩
  rw [hq] at HBOX HB ⊢
  have HQ := Lib.hid hq
  clear hq
  obtain ⟨Z, hZ⟩ : ∃ Z, w2.heap.size = Z := ⟨_, rfl⟩
  have HZ := Lib.hid hZ
  have hqz : q < Z := by rw [← hZ]; exact (Array.getElem?_eq_some_iff.1 HBOX.out).1
  have HQZ := Lib.hid hqz
  have HI0 : Hid (InsRel Z w2 l e (.slice none 0 0) (.bool false) (.int .i64 0) w2) := ⟨[], false, 0, rfl, rfl, Nat.zero_le _, ESt.start w2 hZ, rfl⟩
  clear hZ hqz
  go_wp2_with fail
  go_loopw [5, 6, 7] (fun x d i wr => InsRel Z w2 l e x d i wr) (fun _ _ i _ => n - (intOf i).toNat)
  case atStart => exact HI0.out
  case round =>
    clear HI0
    obtain ⟨o, db, j, rfl, rfl, hj, hst, hinv⟩ := hrel
    have HST := Lib.hid hst
    have HINV := Lib.hid hinv
    have hol : o.length ≤ n + 1 := by
      have h1 := congrArg List.length hinv
      have h2 := insE_len l e
      have h3 := HN.out
      rw [List.length_append] at h1
      omega
    have HOL := Lib.hid hol
    rw [HN.out] at hj
    obtain ⟨xa, xc, hx⟩ := hst.val
    subst hx
    have hbz : w2.heap.size ≤ wr.heap.size := hst.below.size
    have hbox2 := (hst.below.block q HQZ.out).trans HBOX.out
    have hkc : wr.cell? ⟨q, 0, none⟩ = some (.int .i64 e.key) := by rw [cell_of_row _ _ _ _ _ _ hbox2]; rfl
    have hvc : wr.cell? ⟨q, 1, none⟩ = some (.int .i64 e.val) := by rw [cell_of_row _ _ _ _ _ _ hbox2]; rfl
    have HBX := Lib.hid hbox2
    by_cases hlt : j < n
    · have hji : (j : Int) < (n : Int) := by omega
      have hj0 : (0 : Int) ≤ (j : Int) := by omega
      have HJ : Hid (j < n) := hlt
      have hjl : j < l.length := by rw [HN.out]; exact hlt
      have HEC := HE.out.cell j l[j] (List.getElem?_eq_getElem hjl)
      obtain ⟨b, off, rfl, hlb, d0, d1⟩ := HEC
      rw [HZ.out] at hlb
      have HF : Hid (∀ wx, Below Z w2 wx → wx.cell? ⟨b, off + j * 2, none⟩ = some (.int .i64 (l[j]).key) ∧ wx.cell? ⟨b, off + j * 2 + 1, none⟩ = some (.int .i64 (l[j]).val) ∧ wx.cell? ⟨q, 0, none⟩ = some (.int .i64 e.key) ∧ wx.cell? ⟨q, 1, none⟩ = some (.int .i64 e.val)) := fun wx hb => by
        have h1 := (hb.block q HQZ.out).trans HBOX.out
        exact ⟨by rw [← d0]; exact hb.cell (p := ⟨b, off + j * 2, none⟩) hlb, by rw [← d1]; exact hb.cell (p := ⟨b, off + j * 2 + 1, none⟩) hlb, by rw [cell_of_row _ _ _ _ _ _ h1]; rfl, by rw [cell_of_row _ _ _ _ _ _ h1]; rfl⟩
      have hdrop : l.drop j = l[j] :: l.drop (j + 1) := List.drop_eq_getElem_cons hjl
      have HD : Hid (o ++ ((if (!db && decide (e.key ≤ (l[j]).key)) = true then [e] else []) ++ (if (l[j]).key ≠ e.key then [l[j]] else []) ++ insF e (l.drop (j + 1)) (db || (!db && decide (e.key ≤ (l[j]).key)))) = insE l e) := by
        have h1 := HINV.out
        rw [hdrop, insF_cons] at h1
        exact h1
      generalize l[j] = x at HF HD d0 d1
      clear d0 d1
      have HOL2 : Hid (o.length ≤ n + 1 ∧ (o ++ [e]).length ≤ n + 2 ∧ n ≤ 1000000) := ⟨hol, by simp; omega, by omega⟩
      clear hst hinv hbox2 hjl hdrop hlt hj hol HINV hkc hvc HBX
      have HOLD : Hid (o.length ≤ 100000000) := by
        have := HOL2.out
        show o.length ≤ 100000000
        omega
      obtain ⟨c0, c1, hkc, hvc⟩ := HF.out wr HST.out.below
      cases db
      · by_cases hge : e.key ≤ x.key
        · by_cases hne : x.key ≠ e.key
          · skip
            have HFIN : Hid ((o ++ [e]) ++ [x] ++ insF e (l.drop (j + 1)) true = insE l e) := by
              have h1 := HD.out
              simp [hge, hne] at h1
              show (o ++ [e]) ++ [x] ++ insF e (l.drop (j + 1)) true = insE l e
              try simp
              exact h1
            have hn1 : (x.key == e.key) = false := by simp; exact hne
            have hn2 : ¬ x.key = e.key := hne
            have hg : decide (e.key ≤ x.key) = true := decide_eq_true hge
            go_upto_region 6 with fail
            go_quiet (fail)
            rename Nat => d1
            clear c0 c1 hkc hvc
            have HS3 : Hid (ESt Z w2 o _ (wr.drewN d1)) := HST.out.from (below_drewN (Below.refl _ _) d1) HZ.out
            generalize wr.drewN d1 = w3 at HS3 ⊢
            clear HST
            obtain ⟨c0, c1, hkc, hvc⟩ := HF.out w3 HS3.out.below
            go_upto_region 9 with (at_builtin; refine wpList_append_en rfl (.tmp 26) (.tmp 28) rfl (HS3.out.from (below_new7e _ _) HZ.out) HZ.out rfl e w3.heap.size rfl (cell_newE _ _ _) (by have := HOL.out; omega) ?_; intro v5 w5 hc5)
            obtain ⟨xa5, xc5, hx5⟩ := hc5.val
            subst hx5
            have HS5 := Lib.hid hc5
            clear c0 c1 hkc hvc hc5 HS3
            generalize w5 = w3 at HS5 ⊢
            have HS3 := HS5
            clear HS5
            obtain ⟨c0, c1, hkc, hvc⟩ := HF.out w3 HS3.out.below
            go_quiet (fail)
            rename Nat => d2
            clear c0 c1 hkc hvc
            have HS4 : Hid (ESt Z w2 (o ++ [e]) _ (w3.drewN d2)) := HS3.out.from (below_drewN (Below.refl _ _) d2) HZ.out
            generalize w3.drewN d2 = w4 at HS4 ⊢
            clear HS3
            obtain ⟨c0, c1, hkc, hvc⟩ := HF.out w4 HS4.out.below
            go_wp2_with (at_builtin; refine wpList_append_en rfl (.tmp 38) (.tmp 43) rfl (HS4.out.from (below_new7e _ _) HZ.out) HZ.out rfl x w4.heap.size rfl (cell_newE _ _ _) (by have := HOL2.out; omega) ?_; intro v5 w5 hc5)
            exact ⟨⟨(o ++ [e]) ++ [x], true, j + 1, by go_num, rfl, by have := HJ.out; have := HN.out; omega, hc5, HFIN.out⟩, by have := HJ.out; simp [intOf]; omega⟩
          · skip
            have HFIN : Hid ((o ++ [e]) ++ insF e (l.drop (j + 1)) true = insE l e) := by
              have h1 := HD.out
              simp [hge, hne] at h1
              show (o ++ [e]) ++ insF e (l.drop (j + 1)) true = insE l e
              try simp
              exact h1
            have hn2 : x.key = e.key := Classical.not_not.1 hne
            have hn1 : (x.key == e.key) = true := by simp; exact hn2
            have hg : decide (e.key ≤ x.key) = true := decide_eq_true hge
            go_upto_region 6 with fail
            go_quiet (fail)
            rename Nat => d1
            clear c0 c1 hkc hvc
            have HS3 : Hid (ESt Z w2 o _ (wr.drewN d1)) := HST.out.from (below_drewN (Below.refl _ _) d1) HZ.out
            generalize wr.drewN d1 = w3 at HS3 ⊢
            clear HST
            obtain ⟨c0, c1, hkc, hvc⟩ := HF.out w3 HS3.out.below
            go_upto_region 9 with (at_builtin; refine wpList_append_en rfl (.tmp 26) (.tmp 28) rfl (HS3.out.from (below_new7e _ _) HZ.out) HZ.out rfl e w3.heap.size rfl (cell_newE _ _ _) (by have := HOL.out; omega) ?_; intro v5 w5 hc5)
            obtain ⟨xa5, xc5, hx5⟩ := hc5.val
            subst hx5
            have HS5 := Lib.hid hc5
            clear c0 c1 hkc hvc hc5 HS3
            generalize w5 = w3 at HS5 ⊢
            have HS3 := HS5
            clear HS5
            obtain ⟨c0, c1, hkc, hvc⟩ := HF.out w3 HS3.out.below
            go_quiet (fail)
            rename Nat => d2
            clear c0 c1 hkc hvc
            have HS4 : Hid (ESt Z w2 (o ++ [e]) _ (w3.drewN d2)) := HS3.out.from (below_drewN (Below.refl _ _) d2) HZ.out
            generalize w3.drewN d2 = w4 at HS4 ⊢
            clear HS3
            obtain ⟨c0, c1, hkc, hvc⟩ := HF.out w4 HS4.out.below
            go_wp2_with fail
            exact ⟨⟨o ++ [e], true, j + 1, by go_num, rfl, by have := HJ.out; have := HN.out; omega, HS4.out, HFIN.out⟩, by have := HJ.out; simp [intOf]; omega⟩
        · have hne : x.key ≠ e.key := by omega
          have HFIN : Hid ((o) ++ [x] ++ insF e (l.drop (j + 1)) false = insE l e) := by
            have h1 := HD.out
            simp [hge, hne] at h1
            show (o) ++ [x] ++ insF e (l.drop (j + 1)) false = insE l e
            try simp
            exact h1
          have hn1 : (x.key == e.key) = false := by simp; exact hne
          have hn2 : ¬ x.key = e.key := hne
          have hg : decide (e.key ≤ x.key) = false := decide_eq_false hge
          go_upto_region 6 with fail
          go_quiet (fail)
          rename Nat => d1
          clear c0 c1 hkc hvc
          have HS3 : Hid (ESt Z w2 o _ (wr.drewN d1)) := HST.out.from (below_drewN (Below.refl _ _) d1) HZ.out
          generalize wr.drewN d1 = w3 at HS3 ⊢
          clear HST
          go_upto_region 9 with fail
          obtain ⟨c0, c1, hkc, hvc⟩ := HF.out w3 HS3.out.below
          go_quiet (fail)
          rename Nat => d2
          clear c0 c1 hkc hvc
          have HS4 : Hid (ESt Z w2 (o) _ (w3.drewN d2)) := HS3.out.from (below_drewN (Below.refl _ _) d2) HZ.out
          generalize w3.drewN d2 = w4 at HS4 ⊢
          clear HS3
          obtain ⟨c0, c1, hkc, hvc⟩ := HF.out w4 HS4.out.below
          go_wp2_with (at_builtin; refine wpList_append_en rfl (.tmp 38) (.tmp 43) rfl (HS4.out.from (below_new7e _ _) HZ.out) HZ.out rfl x w4.heap.size rfl (cell_newE _ _ _) (by have := HOL2.out; omega) ?_; intro v5 w5 hc5)
          exact ⟨⟨(o) ++ [x], false, j + 1, by go_num, rfl, by have := HJ.out; have := HN.out; omega, hc5, HFIN.out⟩, by have := HJ.out; simp [intOf]; omega⟩
      · by_cases hne : x.key ≠ e.key
        · skip
          have HFIN : Hid ((o) ++ [x] ++ insF e (l.drop (j + 1)) true = insE l e) := by
            have h1 := HD.out
            simp [hne] at h1
            show (o) ++ [x] ++ insF e (l.drop (j + 1)) true = insE l e
            try simp
            exact h1
          have hn1 : (x.key == e.key) = false := by simp; exact hne
          have hn2 : ¬ x.key = e.key := hne
          go_upto_region 6 with fail
          go_quiet (fail)
          rename Nat => d1
          clear c0 c1 hkc hvc
          have HS3 : Hid (ESt Z w2 o _ (wr.drewN d1)) := HST.out.from (below_drewN (Below.refl _ _) d1) HZ.out
          generalize wr.drewN d1 = w3 at HS3 ⊢
          clear HST
          go_upto_region 9 with fail
          obtain ⟨c0, c1, hkc, hvc⟩ := HF.out w3 HS3.out.below
          go_quiet (fail)
          rename Nat => d2
          clear c0 c1 hkc hvc
          have HS4 : Hid (ESt Z w2 (o) _ (w3.drewN d2)) := HS3.out.from (below_drewN (Below.refl _ _) d2) HZ.out
          generalize w3.drewN d2 = w4 at HS4 ⊢
          clear HS3
          obtain ⟨c0, c1, hkc, hvc⟩ := HF.out w4 HS4.out.below
          go_wp2_with (at_builtin; refine wpList_append_en rfl (.tmp 38) (.tmp 43) rfl (HS4.out.from (below_new7e _ _) HZ.out) HZ.out rfl x w4.heap.size rfl (cell_newE _ _ _) (by have := HOL2.out; omega) ?_; intro v5 w5 hc5)
          exact ⟨⟨(o) ++ [x], true, j + 1, by go_num, rfl, by have := HJ.out; have := HN.out; omega, hc5, HFIN.out⟩, by have := HJ.out; simp [intOf]; omega⟩
        · skip
          have HFIN : Hid ((o) ++ insF e (l.drop (j + 1)) true = insE l e) := by
            have h1 := HD.out
            simp [hne] at h1
            show (o) ++ insF e (l.drop (j + 1)) true = insE l e
            try simp
            exact h1
          have hn2 : x.key = e.key := Classical.not_not.1 hne
          have hn1 : (x.key == e.key) = true := by simp; exact hn2
          go_upto_region 6 with fail
          go_quiet (fail)
          rename Nat => d1
          clear c0 c1 hkc hvc
          have HS3 : Hid (ESt Z w2 o _ (wr.drewN d1)) := HST.out.from (below_drewN (Below.refl _ _) d1) HZ.out
          generalize wr.drewN d1 = w3 at HS3 ⊢
          clear HST
          go_upto_region 9 with fail
          obtain ⟨c0, c1, hkc, hvc⟩ := HF.out w3 HS3.out.below
          go_quiet (fail)
          rename Nat => d2
          clear c0 c1 hkc hvc
          have HS4 : Hid (ESt Z w2 (o) _ (w3.drewN d2)) := HS3.out.from (below_drewN (Below.refl _ _) d2) HZ.out
          generalize w3.drewN d2 = w4 at HS4 ⊢
          clear HS3
          obtain ⟨c0, c1, hkc, hvc⟩ := HF.out w4 HS4.out.below
          go_wp2_with fail
          exact ⟨⟨o, true, j + 1, by go_num, rfl, by have := HJ.out; have := HN.out; omega, HS4.out, HFIN.out⟩, by have := HJ.out; simp [intOf]; omega⟩
    · have hjn : j = n := by omega
      have hdr : l.drop j = [] := List.drop_eq_nil_of_le (by rw [HN.out]; omega)
      rw [hdr] at hinv
      have hlt0 : ¬ (j : Int) < (n : Int) := by omega
      have HBW : Hid (∀ wx, Below Z w2 wx → Below w.heap.size w wx) := fun wx hb => by rw [HQ.out]; exact HB.out.trans (hb.mono (Nat.le_of_lt HQZ.out))
      have HOLD : Hid (o.length ≤ 100000000) := by
        show o.length ≤ 100000000
        omega
      clear hst hbox2 HBX HINV hdr hjn hlt hj hol
      cases db
      · have HF : Hid (o ++ [e] = insE l e) := hinv
        clear hinv
        go_wp2_with (at_builtin; refine wpList_append_en rfl (.tmp 47) (.tmp 49) rfl (HST.out.from (below_new7e _ _) HZ.out) HZ.out rfl e wr.heap.size rfl (cell_newE _ _ _) HOLD.out ?_; intro v5 w5 hc5)
        go_ret
        obtain ⟨xa5, xc5, hx5⟩ := hc5.val
        subst hx5
        have hrow := hc5.row
        have hbl := HBW.out _ hc5.below
        rw [HF.out] at hrow ⊢
        exact ⟨xa5, xc5, rfl, row_mono hrow (by rw [HQ.out]; exact Nat.le_of_lt HQZ.out), hbl⟩
      · have HF : Hid (o = insE l e) := by
          have h1 := hinv
          unfold insF at h1
          show o = insE l e
          simpa using h1
        clear hinv
        go_wp2_with fail
        go_ret
        have hrow := HST.out.row
        have hbl := HBW.out _ HST.out.below
        rw [HF.out] at hrow ⊢
        exact ⟨xa, xc, rfl, row_mono hrow (by rw [HQ.out]; exact Nat.le_of_lt HQZ.out), hbl⟩
def LRel (w : World) (raw : List En) (k : Nat) (x i : Value) (wr : World) : Prop :=
  ∃ (j : Nat) (a : Option Addr) (c : Nat), i = .int .i64 (j : Int) ∧ j ≤ k ∧ j ≤ raw.length ∧ x = .slice a (listE raw j).length c ∧ wr.ownsRow w.heap.size 25 2 (.slice a (listE raw j).length c) (listE raw j).length (ensV (listE raw j)) ∧ Below w.heap.size w wr
set_option maxHeartbeats 2000000 in
set_option maxRecDepth 100000 in
theorem list_any {w : World} {a : Option Addr} {n c k : Nat} {raw : List En} (h : EnsAt w a raw) (hn : raw.length = n) (hnm : n ≤ 9223372036854775807) (hk : k ≤ 100000) :
    Calls Tryz.prog 8 #[.slice a n c, .int .i64 (k : Int)] w (MadeEns w (listE raw k)) := by
  have HE := Lib.hid h
  have HN := Lib.hid hn
  have hni : (n : Int) ≤ 9223372036854775807 := by omega
  have hki : (k : Int) ≤ 100000 := by omega
  have HKK : Hid (k ≤ 100000) := hk
  have HR0 : Hid (LRel w raw k (.slice none 0 0) (.int .i64 0) w) := ⟨0, none, 0, rfl, Nat.zero_le _, Nat.zero_le _, rfl, World.ownsRow_nil _ _ _ _, Below.refl _ _⟩
  clear h hn hnm hk
  go_enter Tryz.func8, Tryz.ntmps8
  go_wp2_with fail
  go_loopw [5, 6] (fun x i wr => LRel w raw k x i wr) (fun _ i _ => k - (intOf i).toNat)
  case atStart => exact HR0.out
  case round =>
    clear HR0
    obtain ⟨j, xa, xc, rfl, hjk, hjl, rfl, hrow, hb⟩ := hrel
    have HROW := Lib.hid hrow
    have HB := Lib.hid hb
    have hlen := listE_len raw j
    have HLEN : Hid ((listE raw j).length ≤ 1000000) := (by show (listE raw j).length ≤ 1000000; omega)
    have HWF : Hid (∀ y ∈ listE raw j, i64R y.key ∧ i64R y.val) := fun y hy => HE.out.wf y (listE_mem hy)
    by_cases hlt : j < n
    · have hji : (j : Int) < (n : Int) := by omega
      have hj0 : (0 : Int) ≤ (j : Int) := by omega
      by_cases hlk : j < k
      · have hji2 : (j : Int) < (k : Int) := by omega
        have hjr : j < raw.length := by rw [HN.out]; exact hlt
        have HS : Hid (listE raw (j + 1) = insE (listE raw j) raw[j]) := listE_succ hjr
        have HX : Hid (i64R (raw[j]).key ∧ i64R (raw[j]).val) := HE.out.wf _ (List.getElem_mem hjr)
        obtain ⟨b, off, rfl, hlb, c0, c1⟩ := (HE.out.below hb).cell j raw[j] (List.getElem?_eq_getElem hjr)
        generalize raw[j] = e at c0 c1 HS HX
        have HJ : Hid (j < k ∧ j + 1 ≤ raw.length) := ⟨hlk, hjr⟩
        have HSL : Hid (EnsAt wr xa (listE raw j)) := ens_at hrow HWF.out
        clear hrow hb hlen hjr hlt hlk hjk hjl
        generalize hL : listE raw j = L at HROW HLEN HWF HS HSL ⊢
        clear hL
        go_wp2_with fail
        refine (insert_any e HSL.out HX.out HLEN.out).mono ?_
        rintro ee w3 ⟨a3, c3, rfl, hrow3, hb3⟩
        rw [← HS.out] at hrow3 ⊢
        have HR : Hid (LRel w raw k (.slice a3 (listE raw (j + 1)).length c3) (.int .i64 ((j : Int) + 1)) w3) := ⟨j + 1, a3, c3, by congr 1, HJ.out.1, HJ.out.2, rfl, row_mono hrow3 HB.out.size, HB.out.trans (hb3.mono HB.out.size)⟩
        clear hrow3 hb3
        generalize (listE raw (j + 1)).length = LL at HR ⊢
        go_wp2_with fail
        exact ⟨HR.out, by have := HJ.out; simp [intOf]; omega⟩
      · have hlk0 : ¬ (j : Int) < (k : Int) := by omega
        obtain rfl : j = k := by omega
        clear hrow hb hlen hlt hlk hjk hjl hlk0
        go_wp2_with fail
        go_ret
        exact ⟨xa, xc, rfl, HROW.out, HB.out⟩
    · have hlt0 : ¬ (j : Int) < (n : Int) := by omega
      have HF : Hid (listE raw j = listE raw k) := by
        show listE raw j = listE raw k
        unfold listE
        rw [List.take_of_length_le (show raw.length ≤ j by rw [HN.out]; omega), List.take_of_length_le (show raw.length ≤ k by rw [HN.out]; omega)]
      clear hrow hb hlen hlt hjk hjl
      go_wp2_with fail
      go_ret
      have hr := HROW.out
      rw [HF.out] at hr ⊢
      exact ⟨xa, xc, rfl, hr, HB.out⟩
end Go.Proofs.YtckkmmdibgoajaaGreat
set_option linter.unusedVariables false
set_option linter.unusedSimpArgs false
namespace Go.Proofs.YtckkmmdibgoajaaGreat
open Go.RowKit
/-- index i of the arena is the tree t with the entries l -/
structure TreeAt (A : Ar) (i : Nat) (t : Tr) (l : List En) : Prop where
  inv : ∃ held, A.Inv [] held
  agg : A.Agg
  sub : Sub A i t
  bal : t.bal = true
  ents : t.ents A.nd = l
  up : Up l
theorem Planted.tree {A A' : Ar} {held : Nat → Nat} {l : List En} {i : Nat} {t : Tr} (h : Planted A held l A' i t) (hu : Up l) : TreeAt A' i t l := ⟨⟨_, h.inv⟩, h.agg, h.sub, h.bal, h.ents, hu⟩
theorem TreeAt.size {A : Ar} {i : Nat} {t : Tr} {l : List En} (h : TreeAt A i t l) : t.size = l.length := by rw [← h.ents, Tr.ents_len]
theorem TreeAt.ht {A : Ar} {i : Nat} {t : Tr} {l : List En} (h : TreeAt A i t l) (hl : l.length ≤ 2147483647) : t.ht ≤ xh l.length := by
  have h1 := balT_ht h.agg h.sub (by rw [balT_bal h.agg h.sub]; exact h.bal)
  rw [h.size] at h1
  exact xh_le hl (by omega)
theorem TreeAt.idx {A : Ar} {i : Nat} {t : Tr} {l : List En} (h : TreeAt A i t l) : i < 4294967296 := by
  obtain ⟨held, hv⟩ := h.inv
  rcases h.sub.idx with h1 | h1
  · omega
  · have := hv.ok.on i h1; have := hv.ok.cap2; omega
/-- how often may be read -/
def mostI (n : Nat) : Int := 4 * ((xh n : Int) + 2)
/-- a call that reads: what it returns, what it leaves -/
def ReadsTo (I : AImpl) (p : Value) (A : Ar) (rd : Int) (F : Nat → Prop) (bd : Int) (v : Value) (w : World) (e : Ending) (w' : World) : Prop :=
  ∃ F' rd', e = .returned v ∧ Alters F F' w w' ∧ I.Is w' p A rd' F' ∧ rd ≤ rd' ∧ rd' ≤ rd + bd
/-- an entry, or none, as a result -/
def enR (o : Option En) : Value := .tuple #[.agg (enA o), .bool o.isSome]
/-- the indexes of the search -/
def pathT (nd : Nat → Nd) (k : Int) : Tr → List Nat
  | .nil => []
  | .node i l r => i :: (if k = (nd i).key then [] else if k < (nd i).key then pathT nd k l else pathT nd k r)
/-- a call that reads and returns a new row of numbers -/
def PathRes (I : AImpl) (p : Value) (A : Ar) (rd : Int) (F : Nat → Prop) (bd : Int) (P : List Nat) (w : World) (e : Ending) (w' : World) : Prop :=
  ∃ F' rd' a c, e = .returned (.slice a P.length c) ∧ Alters F F' w w' ∧ I.Is w' p A rd' F' ∧ rd ≤ rd' ∧ rd' ≤ rd + bd ∧ w'.ownsRow w.heap.size 30 1 (.slice a P.length c) P.length (u32s P) ∧ ∀ g, Value.ownBlock (.slice a P.length c) = some g → ¬ F' g
theorem pathT_ht (nd : Nat → Nd) (k : Int) : ∀ t : Tr, (pathT nd k t).length ≤ t.ht
  | .nil => Nat.le_refl _
  | .node i l r => by
    have h1 := pathT_ht nd k l
    have h2 := pathT_ht nd k r
    unfold pathT
    show _ ≤ 1 + max l.ht r.ht
    rw [List.length_cons]
    split
    · simp
    · split <;> omega
structure LkImpl (I : AImpl) : Prop where
  get : ∀ {p : Value} {A : Ar} {rd : Int} {F : Nat → Prop} {i : Nat} {t : Tr} {l : List En} (k : Int) (w : World), I.Is w p A rd F → TreeAt A i t l → 0 ≤ rd → rd ≤ 1099511627776 → i64R k →
    Calls Tryz.prog 50 #[p, .int .u32 (i : Int), .int .i64 k] w (ReadsTo I p A rd F (mostI l.length) (.tuple #[.int .i64 ((getE l k).elim 0 (·.val)), .bool (getE l k).isSome]) w)
  first : ∀ {p : Value} {A : Ar} {rd : Int} {F : Nat → Prop} {i : Nat} {t : Tr} {l : List En} (w : World), I.Is w p A rd F → TreeAt A i t l → 0 ≤ rd → rd ≤ 1099511627776 → (∀ e ∈ l, i64R e.key) →
    Calls Tryz.prog 66 #[p, .int .u32 (i : Int)] w (ReadsTo I p A rd F (mostI l.length) (enR l.head?) w)
  last : ∀ {p : Value} {A : Ar} {rd : Int} {F : Nat → Prop} {i : Nat} {t : Tr} {l : List En} (w : World), I.Is w p A rd F → TreeAt A i t l → 0 ≤ rd → rd ≤ 1099511627776 → (∀ e ∈ l, i64R e.key) →
    Calls Tryz.prog 65 #[p, .int .u32 (i : Int)] w (ReadsTo I p A rd F (mostI l.length) (enR l.getLast?) w)
  floor : ∀ {p : Value} {A : Ar} {rd : Int} {F : Nat → Prop} {i : Nat} {t : Tr} {l : List En} (k : Int) (w : World), I.Is w p A rd F → TreeAt A i t l → 0 ≤ rd → rd ≤ 1099511627776 → i64R k →
    Calls Tryz.prog 92 #[p, .int .u32 (i : Int), .int .i64 k] w (ReadsTo I p A rd F (mostI l.length) (enR (floorE l k)) w)
  ceiling : ∀ {p : Value} {A : Ar} {rd : Int} {F : Nat → Prop} {i : Nat} {t : Tr} {l : List En} (k : Int) (w : World), I.Is w p A rd F → TreeAt A i t l → 0 ≤ rd → rd ≤ 1099511627776 → i64R k →
    Calls Tryz.prog 93 #[p, .int .u32 (i : Int), .int .i64 k] w (ReadsTo I p A rd F (mostI l.length) (enR (ceilE l k)) w)
  path : ∀ {p : Value} {A : Ar} {rd : Int} {F : Nat → Prop} {i : Nat} {t : Tr} {l : List En} (k : Int) (w : World), I.Is w p A rd F → TreeAt A i t l → 0 ≤ rd → rd ≤ 1099511627776 → i64R k →
    Calls Tryz.prog 54 #[p, .int .u32 (i : Int), .int .i64 k] w (PathRes I p A rd F (mostI l.length) (pathT A.nd k t) w)
/-- the arena with its count of reads, beside the boxes of G -/
structure MR (I : AImpl) (B : Nat) (w0 w : World) (p : Value) (A : Ar) (rd : Int) (G : Nat → Prop) : Prop where
  has : ∃ F, I.Is w p A rd F ∧ (∀ k, F k → B ≤ k) ∧ ∀ k, G k → k < w.heap.size ∧ ¬ F k
  below : Below B w0 w
  hB : B ≤ w.heap.size
section
variable {I : AImpl} {B : Nat} {w0 w w' : World} {p : Value} {A : Ar} {rd : Int} {G : Nat → Prop}
theorem MR.calm (h : MR I B w0 w p A rd G) (hb : Below w.heap.size w w') : MR I B w0 w' p A rd G := by
  obtain ⟨F, h1, h4, h5⟩ := h.has
  exact ⟨⟨F, I.below h1 hb, h4, fun k hk => ⟨Nat.lt_of_lt_of_le (h5 k hk).1 hb.size, (h5 k hk).2⟩⟩, h.below.trans (hb.mono h.hB), Nat.le_trans h.hB hb.size⟩
theorem MR.lt (h : MR I B w0 w p A rd G) {k : Nat} (hk : G k) : k < w.heap.size := by
  obtain ⟨F, h1, h4, h5⟩ := h.has
  exact (h5 k hk).1
theorem MR.keeps (h : MR I B w0 w p A rd G) (hb : Below w.heap.size w w') : Keeps G w w' := fun k hk => hb.block k (h.lt hk)
theorem MR.alloc (h : MR I B w0 w p A rd G) (o : Obj) : MR I B w0 (w.alloc o) p A rd (fun k => G k ∨ k = w.heap.size) := by
  have hb := below_new7 w o
  have h' := h.calm hb
  obtain ⟨F, h1, h4, h5⟩ := h.has
  refine ⟨⟨F, I.below h1 hb, h4, fun k hk => ?_⟩, h'.below, h'.hB⟩
  rcases hk with hk | rfl
  · exact ⟨Nat.lt_of_lt_of_le (h5 k hk).1 hb.size, (h5 k hk).2⟩
  · exact ⟨by simp, fun hF => Nat.lt_irrefl _ (I.dom h1 _ hF)⟩
theorem MR.less {G' : Nat → Prop} (h : MR I B w0 w p A rd G) (hG : ∀ k, G' k → G k) : MR I B w0 w p A rd G' := by
  obtain ⟨F, h1, h4, h5⟩ := h.has
  exact ⟨⟨F, h1, h4, fun k hk => h5 k (hG k hk)⟩, h.below, h.hB⟩
/-- a fresh block joins the boxes -/
theorem MR.fresh {G' : Nat → Prop} (h : MR I B w0 w p A rd G) (hb : Below w.heap.size w w') (hG : ∀ k, G' k → G k ∨ (w.heap.size ≤ k ∧ k < w'.heap.size)) : MR I B w0 w' p A rd G' := by
  have h' := h.calm hb
  obtain ⟨F, h1, h4, h5⟩ := h.has
  refine ⟨⟨F, I.below h1 hb, h4, fun k hk => ?_⟩, h'.below, h'.hB⟩
  rcases hG k hk with hk | ⟨h6, h7⟩
  · exact ⟨Nat.lt_of_lt_of_le (h5 k hk).1 hb.size, (h5 k hk).2⟩
  · exact ⟨h7, fun hF => by have := I.dom h1 _ hF; omega⟩
theorem MR.step {rd' : Int} {F F' : Nat → Prop} (h : MR I B w0 w p A rd G) (hF : ∀ k, F k → B ≤ k) (hG : ∀ k, G k → k < w.heap.size ∧ ¬ F k) (hal : Alters F F' w w') (hI : I.Is w' p A rd' F') : MR I B w0 w' p A rd' G ∧ Keeps G w w' :=
  ⟨⟨⟨F', hI, hal.from h.hB hF, hal.apart hG⟩, hal.below h.below h.hB hF, Nat.le_trans h.hB hal.size⟩, fun k hk => hal.block k (hG k hk).1 (hG k hk).2⟩
/-- what a call that reads leaves beside boxes -/
def MRes (I : AImpl) (B : Nat) (w0 : World) (p : Value) (A : Ar) (rd bd : Int) (G : Nat → Prop) (v : Value) (w : World) (e : Ending) (w' : World) : Prop :=
  e = .returned v ∧ ∃ rd', MR I B w0 w' p A rd' G ∧ Keeps G w w' ∧ rd ≤ rd' ∧ rd' ≤ rd + bd
theorem mr_call {bd : Int} {v : Value} {f : FuncId} {args : Array Value} (h : MR I B w0 w p A rd G) (hc : ∀ F, I.Is w p A rd F → Calls Tryz.prog f args w (ReadsTo I p A rd F bd v w)) : Calls Tryz.prog f args w (MRes I B w0 p A rd bd G v w) := by
  obtain ⟨F, h1, h4, h5⟩ := h.has
  refine (hc F h1).mono ?_
  rintro e w1 ⟨F', rd', he, hal, hI, h6, h7⟩
  have := h.step h4 h5 hal hI
  exact ⟨he, rd', this.1, this.2, h6, h7⟩
theorem mr_reads (h : MR I B w0 w p A rd G) : Calls Tryz.prog 16 #[p] w (Quiet w (.int .u64 rd)) := by
  obtain ⟨F, h1, _⟩ := h.has
  exact I.reads p A rd F w h1
end
theorem height_kit (n : Int) (w : World) (h0 : 0 ≤ n) (h1 : n ≤ 2147483647) : Calls Tryz.prog 19 #[.int .i64 n] w (Calm w (.int .i64 (xhI n))) := by
  have HC := Lib.hid (refMaxHeight_any n w (by omega) (by omega))
  clear h0 h1
  go_enter Tryz.func19, Tryz.ntmps19
  go_wp2_with fail
  refine HC.out.mono ?_
  rintro e w1 ⟨rfl, hb⟩
  have HB := Lib.hid hb
  clear hb
  go_wp2_with fail
  go_ret
  exact ⟨rfl, HB.out⟩
theorem xhI_nat {n : Nat} (h : n ≤ 2147483647) : xhI (n : Int) = (xh n : Int) := by
  unfold xhI
  rw [if_pos ⟨by omega, by omega⟩, Int.toNat_natCast]
theorem within_any {I : AImpl} {B : Nat} {w0 w : World} {p : Value} {A : Ar} {rd since most : Int} {G : Nat → Prop} (h : MR I B w0 w p A rd G) (h0 : 0 ≤ since) (h1 : since ≤ rd) (h2 : rd ≤ since + most) (h3 : rd ≤ 4398046511104) (h4 : most ≤ 1000000) :
    Calls Tryz.prog 18 #[p, .int .u64 since, .int .i64 most] w (Calm w (.bool true)) := by
  obtain ⟨F, hI, _⟩ := h.has
  obtain ⟨pa, rfl⟩ := I.ptr hI
  have HMR := Lib.hid h
  have hge : decide (since ≤ rd) = true := decide_eq_true h1
  have hw1 : IntKind.u64.wrap (rd - since) = rd - since := by rw [IntKind.wrap_u64]; omega
  have hw2 : IntKind.u64.wrap most = most := by rw [IntKind.wrap_u64]; omega
  have hle : decide (rd - since ≤ most) = true := decide_eq_true (by omega)
  clear h hI h0 h1 h2 h3 h4
  go_enter Tryz.func18, Tryz.ntmps18
  go_wp2_with fail
  refine (mr_reads HMR.out).mono ?_
  rintro e w1 ⟨rfl, q1, rfl⟩
  have hb1 : Below w.heap.size w (w.drewN q1) := below_drewN (Below.refl _ _) q1
  have HM1 := Lib.hid (HMR.out.calm hb1)
  have HB1 := Lib.hid hb1
  clear hb1 HMR
  generalize w.drewN q1 = w1 at HM1 HB1 ⊢
  go_wp2_with fail
  refine (mr_reads HM1.out).mono ?_
  rintro e w2 ⟨rfl, q2, rfl⟩
  have HB2 : Hid (Below w.heap.size w (w1.drewN q2)) := HB1.out.trans ((below_drewN (Below.refl _ _) q2).mono HB1.out.size)
  generalize w1.drewN q2 = w2 at HB2 ⊢
  go_wp2_with fail
  go_ret
  exact ⟨rfl, HB2.out⟩
end Go.Proofs.YtckkmmdibgoajaaGreat
set_option linter.unusedVariables false
set_option linter.unusedSimpArgs false
namespace Go.Proofs.YtckkmmdibgoajaaGreat
open Go.RowKit
structure Row where
  e : TypeId
  s : Nat
  v : Value
  n : Nat
  xs : List Value
/-- the blocks of rows and boxes -/
def SG (rs : List Row) (bs : List (Nat × Obj)) (k : Nat) : Prop := (∃ r ∈ rs, r.v.ownBlock = some k) ∨ ∃ b ∈ bs, b.1 = k
structure Scn (I : AImpl) (B : Nat) (w0 w : World) (p : Value) (A : Ar) (rd : Int) (rs : List Row) (bs : List (Nat × Obj)) : Prop where
  mr : MR I B w0 w p A rd (SG rs bs)
  rows : ∀ r ∈ rs, w.ownsRow B r.e r.s r.v r.n r.xs
  boxes : ∀ b ∈ bs, B ≤ b.1 ∧ w.heap[b.1]? = some b.2
  rr : rs.Pairwise fun x y => ∀ k, x.v.ownBlock = some k → y.v.ownBlock ≠ some k
  bb : bs.Pairwise fun x y => x.1 ≠ y.1
  rb : ∀ r ∈ rs, ∀ b ∈ bs, r.v.ownBlock ≠ some b.1
section
variable {I : AImpl} {B : Nat} {w0 w w' : World} {p : Value} {A : Ar} {rd rd' : Int} {rs : List Row} {bs : List (Nat × Obj)}
theorem Scn.start (h : MR I B w0 w p A rd (fun _ => False)) : Scn I B w0 w p A rd [] [] :=
  ⟨h.less fun k hk => (by (rcases hk with ⟨r, hr, _⟩ | ⟨b, hb, _⟩); (cases hr); (cases hb)), fun r hr => (by cases hr), fun b hb => (by cases hb), List.Pairwise.nil, List.Pairwise.nil, fun r hr => (by cases hr)⟩
theorem Scn.step (h : Scn I B w0 w p A rd rs bs) (hm : MR I B w0 w' p A rd' (SG rs bs)) (hk : Keeps (SG rs bs) w w') : Scn I B w0 w' p A rd' rs bs :=
  ⟨hm, fun r hr => row_keep (h.rows r hr) fun k hk' => hk k (.inl ⟨r, hr, hk'⟩), fun b hb => ⟨(h.boxes b hb).1, (hk b.1 (.inr ⟨b, hb, rfl⟩)).trans (h.boxes b hb).2⟩, h.rr, h.bb, h.rb⟩
theorem Scn.calm (h : Scn I B w0 w p A rd rs bs) (hb : Below w.heap.size w w') : Scn I B w0 w' p A rd rs bs := h.step (h.mr.calm hb) (h.mr.keeps hb)
theorem Scn.lt (h : Scn I B w0 w p A rd rs bs) {k : Nat} (hk : SG rs bs k) : k < w.heap.size := h.mr.lt hk
/-- a new box -/
theorem Scn.box (h : Scn I B w0 w p A rd rs bs) (cs : Array Value) (t : TypeId) : Scn I B w0 (w.alloc (.cells cs t)) p A rd rs ((w.heap.size, .cells cs t (0, 0)) :: bs) := by
  have hb := below_new7 w (.cells cs t)
  have h' := h.calm hb
  refine ⟨h.mr.fresh hb fun k hk => ?_, h'.rows, fun b hb' => ?_, h.rr, List.pairwise_cons.2 ⟨fun b hb' e => ?_, h.bb⟩, fun r hr b hb' => ?_⟩
  · rcases hk with hk | ⟨b, hb', rfl⟩
    · exact .inl (.inl hk)
    · rcases List.mem_cons.1 hb' with rfl | hb'
      · exact .inr ⟨Nat.le_refl _, by simp⟩
      · exact .inl (.inr ⟨b, hb', rfl⟩)
  · rcases List.mem_cons.1 hb' with rfl | hb'
    · exact ⟨h.mr.hB, heap_alloc_new w _⟩
    · exact h'.boxes b hb'
  · have := h.lt (.inr ⟨b, hb', rfl⟩)
    have e' : w.heap.size = b.1 := e
    omega
  · rcases List.mem_cons.1 hb' with rfl | hb'
    · intro e
      have := h.lt (.inl ⟨r, hr, e⟩)
      exact Nat.lt_irrefl _ this
    · exact h.rb r hr b hb'
/-- a row that was made -/
theorem Scn.row (h : Scn I B w0 w p A rd rs bs) (hb : Below w.heap.size w w') {e : TypeId} {s n : Nat} {v : Value} {xs : List Value} (hr : w'.ownsRow w.heap.size e s v n xs) : Scn I B w0 w' p A rd (⟨e, s, v, n, xs⟩ :: rs) bs := by
  have h' := h.calm hb
  refine ⟨h.mr.fresh hb fun k hk => ?_, fun r hr' => ?_, h'.boxes, List.pairwise_cons.2 ⟨fun r hr' k hk e' => ?_, h.rr⟩, h.bb, fun r hr' b hb' => ?_⟩
  · rcases hk with ⟨r, hr', hk⟩ | hk
    · rcases List.mem_cons.1 hr' with rfl | hr'
      · exact .inr (row_lt hr k hk)
      · exact .inl (.inl ⟨r, hr', hk⟩)
    · exact .inl (.inr hk)
  · rcases List.mem_cons.1 hr' with rfl | hr'
    · exact row_mono hr h.mr.hB
    · exact h'.rows r hr'
  · have h1 := (row_lt hr k hk).1
    have h2 := h.lt (.inl ⟨r, hr', e'⟩)
    omega
  · rcases List.mem_cons.1 hr' with rfl | hr'
    · intro e'
      have h1 := (row_lt hr _ e').1
      have h2 := h.lt (.inr ⟨b, hb', rfl⟩)
      omega
    · exact h.rb r hr' b hb'
theorem Scn.less {rs' : List Row} {bs' : List (Nat × Obj)} (h : Scn I B w0 w p A rd rs bs) (h1 : rs'.Sublist rs) (h2 : bs'.Sublist bs) : Scn I B w0 w p A rd rs' bs' :=
  ⟨h.mr.less fun k hk => by (rcases hk with ⟨r, hr, hk⟩ | ⟨b, hb, hk⟩; exact .inl ⟨r, h1.subset hr, hk⟩; exact .inr ⟨b, h2.subset hb, hk⟩), fun r hr => h.rows r (h1.subset hr), fun b hb => h.boxes b (h2.subset hb), h.rr.sublist h1, h.bb.sublist h2, fun r hr b hb => h.rb r (h1.subset hr) b (h2.subset hb)⟩
/-- the first box is written anew -/
theorem Scn.set {g : Nat} {o o' : Obj} (h : Scn I B w0 w p A rd rs ((g, o) :: bs)) (hw : w'.heap[g]? = some o') (ho : w'.os = w.os ∧ w'.tape = w.tape ∧ w'.output = w.output ∧ w'.heap.size = w.heap.size ∧ ∀ k, k ≠ g → w'.heap[k]? = w.heap[k]?) :
    Scn I B w0 w' p A rd rs ((g, o') :: bs) := by
  obtain ⟨o1, o2, o3, o4, o5⟩ := ho
  obtain ⟨F, f1, f2, f3⟩ := h.mr.has
  obtain ⟨h1, h2⟩ := List.pairwise_cons.1 h.bb
  have hgB : B ≤ g := (h.boxes (g, o) (by simp)).1
  refine ⟨⟨⟨F, I.keep f1 fun k hk => o5 k fun e => (f3 g (.inr ⟨(g, o), by simp, rfl⟩)).2 (e ▸ hk), f2, fun k hk => ?_⟩, h.mr.below.trans ⟨o1, o2, o3, Nat.le_of_eq o4.symm, fun k hk => o5 k (by omega)⟩, by rw [o4]; exact h.mr.hB⟩, fun r hr => row_keep (h.rows r hr) fun k hk => o5 k fun e => h.rb r hr (g, o) (by simp) (e ▸ hk), fun b hb => ?_, h.rr, List.pairwise_cons.2 ⟨h1, h2⟩, fun r hr b hb => ?_⟩
  · have : SG rs ((g, o) :: bs) k := by
      rcases hk with hk | ⟨b, hb, rfl⟩
      · exact .inl hk
      · rcases List.mem_cons.1 hb with rfl | hb
        · exact .inr ⟨(g, o), by simp, rfl⟩
        · exact .inr ⟨b, by simp [hb], rfl⟩
    exact ⟨by rw [o4]; exact (f3 k this).1, (f3 k this).2⟩
  · rcases List.mem_cons.1 hb with rfl | hb
    · exact ⟨hgB, hw⟩
    · exact ⟨(h.boxes b (by simp [hb])).1, (o5 b.1 (fun e => h1 b hb e.symm)).trans (h.boxes b (by simp [hb])).2⟩
  · rcases List.mem_cons.1 hb with rfl | hb
    · exact h.rb r hr (g, o) (by simp)
    · exact h.rb r hr b (by simp [hb])
theorem Scn.below (h : Scn I B w0 w p A rd rs bs) : Below B w0 w := h.mr.below
/-- a box of two numbers -/
theorem Scn.two {g : Nat} {x y : Int} {t : TypeId} (h : Scn I B w0 w p A rd rs bs) (hm : (g, Obj.cells #[.int .i64 x, .int .i64 y] t (0, 0)) ∈ bs) : w.cell? ⟨g, 0, none⟩ = some (.int .i64 x) ∧ w.cell? ⟨g, 1, none⟩ = some (.int .i64 y) ∧ w.frozen? ⟨g, 0, none⟩ = false ∧ w.frozen? ⟨g, 1, none⟩ = false :=
  ⟨(two_ofE (h.boxes _ hm).2).1, (two_ofE (h.boxes _ hm).2).2, frozen_of_row _ _ _ _ _ (h.boxes _ hm).2, frozen_of_row _ _ _ _ _ (h.boxes _ hm).2⟩
theorem Scn.reads (h : Scn I B w0 w p A rd rs bs) : Calls Tryz.prog 16 #[p] w fun e w' => e = .returned (.int .u64 rd) ∧ Scn I B w0 w' p A rd rs bs := by
  refine (mr_reads h.mr).mono ?_
  rintro e w1 ⟨he, q, rfl⟩
  exact ⟨he, h.calm (below_drewN (Below.refl _ _) q)⟩
/-- two rows that were made by one call -/
theorem Scn.row2 (h : Scn I B w0 w p A rd rs bs) (hb : Below w.heap.size w w') {e e' : TypeId} {s s' n n' : Nat} {v v' : Value} {xs xs' : List Value} (hr : w'.ownsRow w.heap.size e s v n xs) (hr2 : w'.ownsRow w.heap.size e' s' v' n' xs') (hne : ∀ k, v'.ownBlock = some k → v.ownBlock ≠ some k) :
    Scn I B w0 w' p A rd (⟨e', s', v', n', xs'⟩ :: ⟨e, s, v, n, xs⟩ :: rs) bs := by
  have h1 := h.row hb hr
  refine ⟨h.mr.fresh hb fun k hk => ?_, fun r hr' => ?_, h1.boxes, List.pairwise_cons.2 ⟨fun r hr' k hk e' => ?_, h1.rr⟩, h.bb, fun r hr' b hb' => ?_⟩
  · rcases hk with ⟨r, hr', hk⟩ | hk
    · rcases List.mem_cons.1 hr' with rfl | hr'
      · exact .inr (row_lt hr2 k hk)
      · rcases List.mem_cons.1 hr' with rfl | hr'
        · exact .inr (row_lt hr k hk)
        · exact .inl (.inl ⟨r, hr', hk⟩)
    · exact .inl (.inr hk)
  · rcases List.mem_cons.1 hr' with rfl | hr'
    · exact row_mono hr2 h.mr.hB
    · exact h1.rows r hr'
  · rcases List.mem_cons.1 hr' with rfl | hr'
    · exact hne k hk e'
    · have h2 := (row_lt hr2 k hk).1
      have h3 := h.lt (.inl ⟨r, hr', e'⟩)
      omega
  · rcases List.mem_cons.1 hr' with rfl | hr'
    · intro e'
      have h2 := (row_lt hr2 _ e').1
      have h3 := h.lt (.inr ⟨b, hb', rfl⟩)
      omega
    · exact h1.rb r hr' b hb'
theorem Scn.dump (h : Scn I B w0 w p A rd rs bs) : Calls Tryz.prog 15 #[p] w
    fun e w' => ∃ a c b d, e = .returned (.agg #[.slice a A.σ.cap c, .slice b A.σ.free.length d]) ∧ Scn I B w0 w' p A rd (⟨30, 1, .slice b A.σ.free.length d, A.σ.free.length, u32s A.σ.free⟩ :: ⟨90, 11, .slice a A.σ.cap c, A.σ.cap, slotsV A⟩ :: rs) bs ∧ Below w.heap.size w w' := by
  obtain ⟨F, h1, _⟩ := h.mr.has
  refine (I.dump p A rd F w h1).mono ?_
  rintro e w1 ⟨a, c, b, d, rfl, hr1, hr2, hb⟩
  exact ⟨a, c, b, d, rfl, h.row2 hb hr1 hr2 (row_ne (by decide) hr2 hr1), hb⟩
end
theorem ens_row {w : World} {B n c : Nat} {a : Option Addr} {l : List En} (hn : l.length = n) (h : w.ownsRow B 25 2 (.slice a n c) n (ensV l)) (hw : ∀ e ∈ l, i64R e.key ∧ i64R e.val) : EnsAt w a l := by
  subst hn
  exact ens_at h hw
theorem Scn.init {I : AImpl} {m n c i : Nat} {l : List En} {w w1 w2 : World} {p : Value} {A : Ar} {t : Tr} {F : Nat → Prop} {a : Option Addr} {xs : List Value} {ty : TypeId} {s : Nat} (hg : Grown I m l w1 p A i t F w2) (hb1 : Below w.heap.size w w1) (hr : w1.ownsRow w.heap.size ty s (.slice a n c) n xs) :
    Scn I w.heap.size w w2 p A 0 [⟨ty, s, .slice a n c, n, xs⟩] [] := by
  refine ⟨⟨⟨F, hg.is, fun k hk => Nat.le_trans hb1.size (hg.foot k hk), fun k hk => ?_⟩, hb1.trans (hg.below.mono hb1.size), Nat.le_trans hb1.size hg.below.size⟩, fun r hr' => ?_, fun b hb => (by cases hb), ?_, List.Pairwise.nil, fun r hr' b hb => (by cases hb)⟩
  · rcases hk with ⟨r, hr', hk⟩ | ⟨b, hb, _⟩
    · simp at hr'
      subst hr'
      have h1 := row_lt hr k hk
      exact ⟨Nat.lt_of_lt_of_le h1.2 hg.below.size, fun hF => by have := hg.foot k hF; omega⟩
    · cases hb
  · simp at hr'
    subst hr'
    exact row_below hr hg.below
  · exact List.pairwise_singleton _ _
end Go.Proofs.YtckkmmdibgoajaaGreat
set_option linter.unusedVariables false
namespace Go.Proofs.YtckkmmdibgoajaaGreat
open Go.RowKit
theorem fInfo : (Tryz.prog.info? 149).map (fun i => (i.zero, i.size, i.bytes)) = some (some (.agg #[.int .i64 0, .int .u32 0, .int .i64 0, .int .i64 0]), 4, 32) := by kernel_rfl
theorem i64_is' (n : Int) : IntKind.i64.wrap n = wrap64 n := by rw [IntKind.wrap_i64]; unfold wrap64; rfl
structure CSt (Z : Nat) (w2 : World) (l : List Fd) (v : Value) (wr : World) : Prop where
  val : ∃ a c, v = .slice a l.length c
  row : wr.ownsRow Z 149 4 v l.length (fdsV l)
  below : Below Z w2 wr
section
variable {Z : Nat} {w2 wr w' : World} {l : List Fd} {v v' : Value}
theorem CSt.from (h : CSt Z w2 l v wr) (hb : Below wr.heap.size wr w') (hZ : w2.heap.size = Z) : CSt Z w2 l v w' :=
  ⟨h.val, row_below h.row hb, h.below.trans (hb.mono (by have := h.below.size; omega))⟩
theorem CSt.start (w2 : World) (hZ : w2.heap.size = Z) : CSt Z w2 [] (.slice none 0 0) w2 := ⟨⟨none, 0, rfl⟩, World.ownsRow_nil _ _ _ _, Below.refl _ _⟩
theorem cell_new4 (w : World) (x y z u : Value) (t : TypeId) : ∀ j v, [x, y, z, u][j]? = some v → (w.alloc (.cells #[x, y, z, u] t)).cell? ((⟨w.heap.size, 0, none⟩ : Addr).add j) = some v := by
  intro j v hu
  match j, hu with
  | 0, hu => simp at hu; subst hu; simp [Addr.add]
  | 1, hu => simp at hu; subst hu; simp [Addr.add]
  | 2, hu => simp at hu; subst hu; simp [Addr.add]
  | 3, hu => simp at hu; subst hu; simp [Addr.add]
theorem fd_one (f : Fd) : ∀ u ∈ fdV f, u.oneCell' = true := by
  intro u hu
  simp [fdV] at hu
  rcases hu with rfl | rfl | rfl | rfl <;> rfl
/-- blocks of other types stay -/
def Others (w w' : World) : Prop := ∀ (k : Nat) (cur : Array Value) (t : TypeId), w.heap[k]? = some (.cells cur t (0, 0)) → t ≠ 149 → w'.heap[k]? = some (.cells cur t (0, 0))
theorem others_grown {n : Nat} {xs : List Value} (h : wr.ownsRow Z 149 4 v n xs) (hg : wr.grownBy w' v.ownBlock) : Others wr w' := by
  intro k cur t hk ht
  rw [hg.block k (Array.getElem?_eq_some_iff.1 hk).1 fun e => ?_]
  · exact hk
  rcases h.2 with ⟨rfl, _⟩ | ⟨g2, cap2, cur2, rfl, _, hc2, _⟩
  · simp [Value.ownBlock] at e
  · simp only [Value.ownBlock, Option.some.injEq] at e
    subst e
    rw [hk] at hc2
    simp at hc2
    exact ht hc2.2
theorem wpList_append_fd {ops : Array Oper} {rest : List Oper} {o : Oper} {a : Act} {w : World} {Q : Exit → Act → World → Prop} (hgd : o.guard = none) (s x : Operand)
    (ho : o.op = .call { callee := .builtin .append, args := #[s, x], argTypes := #[130, 130] })
    (hc : CSt Z w2 l v w) (hZ : w2.heap.size = Z) (hs : a.eval s = v) (f : Fd) (g : Nat) (hx : a.eval x = .slice (some ⟨g, 0, none⟩) 1 1)
    (hn : ∀ j u, (fdV f)[j]? = some u → w.cell? ((⟨g, 0, none⟩ : Addr).add j) = some u) (hl : l.length ≤ 100000000)
    (h : ∀ v' w', CSt Z w2 (l ++ [f]) v' w' → Others w w' → wpList Tryz.prog ops Q rest (a.put o.dst v') w') : wpList Tryz.prog ops Q (o :: rest) a w := by
  obtain ⟨i, ji, jz0, jz1, jz2⟩ := info_parts fInfo
  refine wpList_append_own _ hgd s x 130 ho Z 149 i (.agg #[.int .i64 0, .int .u32 0, .int .i64 0, .int .i64 0]) 4 32 Tryz.underlying130 ji jz0 jz1 jz2 rfl (by decide) v l.length (fdsV l) hs hc.row ⟨g, 0, none⟩ 1 1 (fdV f) hx rfl hn (fd_one f) (by unfold maxLen; omega) (by omega) (by have := hc.below.size; omega) ?_
  intro v' w' ho' hg _
  have h1 : CSt Z w2 (l ++ [f]) v' w' := by
    obtain ⟨a', c', hv⟩ := row_val ho'
    refine ⟨⟨a', c', by rw [List.length_append]; exact hv⟩, ?_, hc.below.grown hg (by have := hc.below.size; omega) (row_from hc.row)⟩
    rw [List.length_append, fdsV_snoc]
    exact ho'
  exact h v' w' h1 (others_grown hc.row hg)
/-- the cells of a block that holds a slot's description -/
theorem sl_cells {w : World} {g : Nat} {s : Sl} {t : TypeId} (h : w.heap[g]? = some (.cells (slV s).toArray t (0, 0))) :
    w.cell? ⟨g, 0, none⟩ = some (.bool s.on) ∧ w.cell? ⟨g, 1, none⟩ = some (.int .i64 s.cnt) ∧ w.cell? ⟨g, 2, none⟩ = some (.int .u32 s.gen) ∧
    w.cell? ⟨g, 3, none⟩ = some (.int .i64 s.nd.key) ∧ w.cell? ⟨g, 4, none⟩ = some (.int .i64 s.nd.val) ∧ w.cell? ⟨g, 5, none⟩ = some (.int .u32 (s.nd.left : Int)) ∧
    w.cell? ⟨g, 6, none⟩ = some (.int .u32 (s.nd.right : Int)) ∧ w.cell? ⟨g, 7, none⟩ = some (.int .i64 s.nd.size) ∧ w.cell? ⟨g, 8, none⟩ = some (.int .i64 s.nd.sum) ∧
    w.cell? ⟨g, 9, none⟩ = some (.int .i64 s.nd.mn) ∧ w.cell? ⟨g, 10, none⟩ = some (.int .i64 s.nd.mx) := by
  refine ⟨?_, ?_, ?_, ?_, ?_, ?_, ?_, ?_, ?_, ?_, ?_⟩ <;> (rw [cell_of_row _ _ _ _ _ _ h]; rfl)
/-- the row of findings beside the description of the slot at hand -/
structure RSt (Z : Nat) (w2 : World) (l : List Fd) (v : Value) (sb : Nat) (s : Sl) (wr : World) : Prop where
  st : CSt Z w2 l v wr
  box : wr.heap[sb]? = some (.cells (slV s).toArray 90 (0, 0))
variable {sb : Nat} {s : Sl}
theorem RSt.from (h : RSt Z w2 l v sb s wr) (hb : Below wr.heap.size wr w') (hZ : w2.heap.size = Z) : RSt Z w2 l v sb s w' :=
  ⟨h.st.from hb hZ, (hb.block _ (Array.getElem?_eq_some_iff.1 h.box).1).trans h.box⟩
theorem RSt.push {w3 : World} {l' : List Fd} (h : RSt Z w2 l v sb s wr) (hb : Below wr.heap.size wr w') (hc : CSt Z w2 l' v' w3) (ho : Others w' w3) : RSt Z w2 l' v' sb s w3 :=
  ⟨hc, ho _ _ _ ((hb.block _ (Array.getElem?_eq_some_iff.1 h.box).1).trans h.box) (by decide)⟩
theorem below_new (w : World) (o : Obj) : Below w.heap.size w (w.alloc o) := (Below.refl _ _).alloc (Nat.le_refl _) _
theorem below_chain {a b c : World} (h : Below a.heap.size a b) (h' : Below b.heap.size b c) : Below a.heap.size a c := h.trans (h'.mono h.size)
theorem opt_yes {b : Bool} {f : Fd} (h : b = true) : opt b f = [f] := by unfold opt; rw [if_pos h]
theorem opt_no {b : Bool} {f : Fd} (h : b = false) : opt b f = [] := by unfold opt; rw [h]; rfl
end
end Go.Proofs.YtckkmmdibgoajaaGreat
set_option linter.unusedVariables false
namespace Go.Proofs.YtckkmmdibgoajaaGreat
open Go.RowKit
def FdsRes (w : World) (l : List Fd) (e : Ending) (w' : World) : Prop :=
  ∃ a c, e = .returned (.slice a l.length c) ∧ w'.ownsRow w.heap.size 149 4 (.slice a l.length c) l.length (fdsV l) ∧ Below w.heap.size w w'
/-- what is asked of the reference's Check -/
def CheckSpec : Prop := ∀ (w : World) (a b ra : Option Addr) (n c d rc : Nat) (S : Nat → Sl) (fr rs : List Nat), SlotsAt w a n S → U32At w b fr → U32At w ra rs → n ≤ 65536 → fr.length ≤ 1000000 → rs.length ≤ 1000000 → ∀ R : Nat → Bool, (∀ j, j < n → (R j = true ↔ Rch S n rs (j + 1))) →
    Calls Tryz.prog 88 #[.agg #[.slice a n c, .slice b fr.length d], .slice ra rs.length rc] w (FdsRes w (chk S n fr rs R))
set_option maxHeartbeats 1000000 in
set_option maxRecDepth 100000 in
theorem clean_any (hchk : CheckSpec) {w : World} {a b ra : Option Addr} {n c d rc : Nat} {S : Nat → Sl} (fr rs : List Nat) (h : SlotsAt w a n S) (hf : U32At w b fr) (hr : U32At w ra rs) (hn : n ≤ 65536) (hfl : fr.length ≤ 1000000) (hl : rs.length ≤ 1000000) (R : Nat → Bool) (hR : ∀ j, j < n → (R j = true ↔ Rch S n rs (j + 1))) (h0 : chk S n fr rs R = []) :
    Calls Tryz.prog 57 #[.agg #[.slice a n c, .slice b fr.length d], .slice ra rs.length rc] w (Calm w (.bool true)) := by
  have hb := below_new w (Obj.cells #[Value.slice a n c, Value.slice b fr.length d] 41)
  have hh := h.below hb
  have hff := hf.below hb
  have hrr := hr.below hb
  obtain ⟨hc0, hc1⟩ := (DBox.new w a b n c fr.length d).cells
  obtain ⟨M, hM⟩ : ∃ M, fr.length = M := ⟨_, rfl⟩
  obtain ⟨L, hL⟩ : ∃ L, rs.length = L := ⟨_, rfl⟩
  have hcall := hchk _ a b ra n c d rc S fr rs hh hff hrr hn hfl hl R hR
  rw [h0] at hcall
  rw [hM, hL] at hcall
  rw [hM] at hc0 hc1 hb ⊢
  rw [hL]
  have HC := Lib.hid hcall
  have HB := Lib.hid hb
  clear h hf hr hh hff hrr hR h0 hcall hM hL hb hfl hl
  go_enter Tryz.func57, Tryz.ntmps57
  go_wp2_with fail
  refine HC.out.mono ?_
  rintro e w2 ⟨ra', rc', rfl, _, hb2⟩
  have hbb := HB.out.trans (hb2.mono HB.out.size)
  have HBB := Lib.hid hbb
  clear hb2 hbb hc0 hc1
  rw [show ([] : List Fd).length = 0 from rfl]
  go_wp2
  go_ret
  exact ⟨rfl, HBB.out⟩
set_option maxHeartbeats 1000000 in
set_option maxRecDepth 100000 in
theorem sound_any (hchk : CheckSpec) (I : AImpl) {w : World} {p : Value} {A : Ar} {rd : Int} {F : Nat → Prop} {l : List Nat} {ra : Option Addr} {rc : Nat} (h : I.Is w p A rd F) (hI : A.Inv [] (hof l)) (hA : A.Agg) (hr : U32At w ra l) (hl : l.length ≤ 1000000) (hi : ∀ x ∈ l, x = 0 ∨ A.σ.on x = true) :
    Calls Tryz.prog 21 #[p, .slice ra l.length rc] w (Calm w (.bool true)) := by
  obtain ⟨L, hL⟩ : ∃ L, l.length = L := ⟨_, rfl⟩
  have HL := Lib.hid hL
  rw [hL]
  have HR := Lib.hid hr
  have HI := Lib.hid hI
  have HCK : Hid (∀ R : Nat → Bool, (∀ j, j < A.σ.cap → (R j = true ↔ Rch A.sl A.σ.cap l (j + 1))) → chk A.sl A.σ.cap A.σ.free l R = []) := fun R hR => chk_sound hI hA hi hR
  have HX := Lib.hid h
  clear hL hr hI hA hi h
  go_enter Tryz.func21, Tryz.ntmps21
  go_wp2_with fail
  refine (I.dump p A rd F w HX.out).mono ?_
  rintro e w2 ⟨a, c, b, d, rfl, hs, hf, hb⟩
  have hlen := HI.out.ok.len
  have hcap := HI.out.ok.cap2
  have hsl := slots_at HI.out hs
  have hfr := row_u32 hf fun y hy => by have := (HI.out.ok.free y).1 hy; omega
  have hrr := HR.out.below hb
  have hcl := clean_any hchk (b := b) (c := c) (d := d) (rc := rc) A.σ.free l hsl hfr hrr hcap (by omega) hl (fun j => @decide (Rch A.sl A.σ.cap l (j + 1)) (Classical.propDecidable _)) (fun j hj => by simp) (HCK.out _ (fun j hj => by simp))
  rw [HL.out] at hcl
  have HCL := Lib.hid hcl
  have HB := Lib.hid hb
  clear hs hf hb hlen hcap hsl hfr hrr hcl hl
  go_wp2_with fail
  refine HCL.out.mono ?_
  rintro e w3 ⟨rfl, hb3⟩
  have hbb := HB.out.trans (hb3.mono HB.out.size)
  have HBB := Lib.hid hbb
  clear hb3 hbb
  go_wp2
  go_ret
  exact ⟨rfl, HBB.out⟩
end Go.Proofs.YtckkmmdibgoajaaGreat
set_option linter.unusedVariables false
set_option linter.unusedSimpArgs false
namespace Go.Proofs.YtckkmmdibgoajaaGreat
open Go.RowKit
theorem MR.stepA {I : AImpl} {B : Nat} {w0 w w' : World} {p : Value} {A A' : Ar} {rd rd' : Int} {G F F' : Nat → Prop} (h : MR I B w0 w p A rd G) (hF : ∀ k, F k → B ≤ k) (hG : ∀ k, G k → k < w.heap.size ∧ ¬ F k) (hal : Alters F F' w w') (hI : I.Is w' p A' rd' F') : MR I B w0 w' p A' rd' G ∧ Keeps G w w' :=
  ⟨⟨⟨F', hI, hal.from h.hB hF, hal.apart hG⟩, hal.below h.below h.hB hF, Nat.le_trans h.hB hal.size⟩, fun k hk => hal.block k (hG k hk).1 (hG k hk).2⟩
/-- a call that alters the arena: what it returns and leaves -/
def Mut (I : AImpl) (p : Value) (F : Nat → Prop) (Q : Ending → Ar → Int → Prop) (w : World) (e : Ending) (w' : World) : Prop :=
  ∃ F' A' rd', Alters F F' w w' ∧ I.Is w' p A' rd' F' ∧ Q e A' rd'
section
variable {I : AImpl} {B : Nat} {w0 w w' : World} {p : Value} {A : Ar} {rd rd' : Int} {rs : List Row} {bs : List (Nat × Obj)}
theorem Scn.stepA {A' : Ar} (h : Scn I B w0 w p A rd rs bs) (hm : MR I B w0 w' p A' rd' (SG rs bs)) (hk : Keeps (SG rs bs) w w') : Scn I B w0 w' p A' rd' rs bs :=
  ⟨hm, fun r hr => row_keep (h.rows r hr) fun k hk' => hk k (.inl ⟨r, hr, hk'⟩), fun b hb => ⟨(h.boxes b hb).1, (hk b.1 (.inr ⟨b, hb, rfl⟩)).trans (h.boxes b hb).2⟩, h.rr, h.bb, h.rb⟩
theorem Scn.mut {f : FuncId} {args : Array Value} {Q : Ending → Ar → Int → Prop} (h : Scn I B w0 w p A rd rs bs) (hc : ∀ F, I.Is w p A rd F → Calls Tryz.prog f args w (Mut I p F Q w)) :
    Calls Tryz.prog f args w fun e w' => ∃ A' rd', Q e A' rd' ∧ Scn I B w0 w' p A' rd' rs bs := by
  obtain ⟨F, f1, f2, f3⟩ := h.mr.has
  refine (hc F f1).mono ?_
  rintro e w1 ⟨F', A', rd', hal, hI, hq⟩
  have hst := h.mr.stepA f2 f3 hal hI
  exact ⟨A', rd', hq, h.stepA hst.1 hst.2⟩
theorem Scn.free (h : Scn I B w0 w p A rd rs bs) : Calls Tryz.prog 20 #[p] w fun e w' => e = .returned (.int .i64 (A.σ.free.length : Int)) ∧ Scn I B w0 w' p A rd rs bs := by
  obtain ⟨F, f1, f2, f3⟩ := h.mr.has
  refine (I.freeN p A rd F w f1).mono ?_
  rintro e w1 ⟨h3, q, h4⟩
  exact ⟨h3, by subst h4; exact h.calm (below_drewN (Below.refl _ _) _)⟩
theorem Scn.sound (hchk : CheckSpec) (h : Scn I B w0 w p A rd rs bs) {l : List Nat} {ra : Option Addr} {L rc : Nat} (hv : A.Inv [] (hof l)) (hA : A.Agg) (hr : U32At w ra l) (hL : l.length = L) (hl : L ≤ 1000000) (hi : ∀ x ∈ l, x = 0 ∨ A.σ.on x = true) :
    Calls Tryz.prog 21 #[p, .slice ra L rc] w (Calm w (.bool true)) := by
  subst hL
  obtain ⟨F, f1, _⟩ := h.mr.has
  exact sound_any hchk I f1 hv hA hr hl hi
end
/-- a dump's rows, later -/
theorem Scn.slots_of {I : AImpl} {B : Nat} {w0 w : World} {p : Value} {A A0 : Ar} {rd : Int} {rs : List Row} {bs : List (Nat × Obj)} {st : List Nat} {held : Nat → Nat} {a : Option Addr} {c N : Nat} (h : Scn I B w0 w p A rd rs bs) (hv : A0.Inv st held) (hN : A0.σ.cap = N) (hm : (⟨90, 11, .slice a N c, N, slotsV A0⟩ : Row) ∈ rs) : SlotsAt w a N A0.sl := by
  subst hN
  exact slots_at hv (h.rows _ hm)
theorem Scn.dumped {I : AImpl} {B : Nat} {w0 w : World} {p : Value} {A A0 : Ar} {rd : Int} {u : Row} {rs : List Row} {bs : List (Nat × Obj)} {st : List Nat} {held : Nat → Nat} {a : Option Addr} {c N : Nat} (h : Scn I B w0 w p A rd (u :: ⟨90, 11, .slice a N c, N, slotsV A0⟩ :: rs) bs) (hv : A0.Inv st held) (hN : A0.σ.cap = N) : SlotsAt w a N A0.sl := h.slots_of (c := c) hv hN (List.Mem.tail _ (List.Mem.head _))
theorem made_ens {w w' : World} {l : List En} {e : Ending} (h : MadeEns w l e w') (hw : ∀ e ∈ l, i64R e.key ∧ i64R e.val) {N : Nat} (hN : l.length = N) : ∃ a c, e = .returned (.slice a N c) ∧ EnsAt w' a l ∧ Below w.heap.size w w' := by
  subst hN
  obtain ⟨a, c, h1, h2, h3⟩ := h
  exact ⟨a, c, h1, ens_at h2 hw, h3⟩
theorem hof_nil : hof [] = fun _ => 0 := by
  funext i
  unfold hof
  split <;> simp
theorem hof_le (l : List Nat) (j : Nat) : hof l j ≤ l.length := by
  unfold hof
  split
  · exact Nat.zero_le _
  · exact List.count_le_length
/-- a slice of indexes that is built -/
theorem u2_at (w : World) (t : TypeId) (x y : Nat) (hx : x < 4294967296) (hy : y < 4294967296) :
    U32At (w.alloc (.cells #[.int .u32 (x : Int), .int .u32 (y : Int)] t)) (some ⟨w.heap.size, 0, none⟩) [x, y] := by
  have hr := heap_alloc_new w (.cells #[.int .u32 (x : Int), .int .u32 (y : Int)] t)
  refine ⟨fun j hj => ⟨w.heap.size, 0, rfl, by simp, ?_⟩, fun z hz => ?_⟩
  · match j, hj with
    | 0, _ => rw [cell_of_row _ _ _ _ _ _ hr]; rfl
    | 1, _ => rw [cell_of_row _ _ _ _ _ _ hr]; rfl
    | j + 2, hj => exact absurd hj (by simp)
  · simp at hz
    rcases hz with rfl | rfl
    · exact hx
    · exact hy
theorem u3_at (w : World) (t : TypeId) (x y z : Nat) (hx : x < 4294967296) (hy : y < 4294967296) (hz : z < 4294967296) :
    U32At (w.alloc (.cells #[.int .u32 (x : Int), .int .u32 (y : Int), .int .u32 (z : Int)] t)) (some ⟨w.heap.size, 0, none⟩) [x, y, z] := by
  have hr := heap_alloc_new w (.cells #[.int .u32 (x : Int), .int .u32 (y : Int), .int .u32 (z : Int)] t)
  refine ⟨fun j hj => ⟨w.heap.size, 0, rfl, by simp, ?_⟩, fun u hu => ?_⟩
  · match j, hj with
    | 0, _ => rw [cell_of_row _ _ _ _ _ _ hr]; rfl
    | 1, _ => rw [cell_of_row _ _ _ _ _ _ hr]; rfl
    | 2, _ => rw [cell_of_row _ _ _ _ _ _ hr]; rfl
    | j + 3, hj => exact absurd hj (by simp)
  · simp at hu
    rcases hu with rfl | rfl | rfl
    · exact hx
    · exact hy
    · exact hz
end Go.Proofs.YtckkmmdibgoajaaGreat
set_option linter.unusedVariables false
set_option linter.unusedSimpArgs false
namespace Go.Proofs.YtckkmmdibgoajaaGreat
open Go.RowKit
def in64 (x : Int) : Prop := -9223372036854775808 ≤ x ∧ x ≤ 9223372036854775807
def vld (x : Int) : Prop := 0 ≤ x ∧ x ≤ 65536
instance (x : Int) : Decidable (vld x) := by unfold vld; exact inferInstance
def needI (a b c more extra factor : Int) : Int := if vld a ∧ vld b ∧ vld c then extra + factor * (xhI (a + b + c + more) + 2) else -1
theorem xhI_in {n : Int} (h0 : 0 ≤ n) (h1 : n ≤ 1000000) : 0 ≤ xhI n ∧ xhI n < 80 := by
  unfold xhI
  rw [if_pos ⟨h0, by omega⟩]
  have := (xh_spec (n := n.toNat) (by omega)).2.1
  omega
set_option maxHeartbeats 1000000 in
set_option maxRecDepth 100000 in
theorem refNeed_any (a b c more extra factor : Int) (w : World) (hb : in64 a ∧ in64 b ∧ in64 c) (hm : 0 ≤ more ∧ more ≤ 1) (hx : vld a → vld b → vld c → 0 ≤ extra ∧ extra ≤ 1000000) (hf : 0 ≤ factor ∧ factor ≤ 12) :
    Calls Tryz.prog 43 #[.int .i64 a, .int .i64 b, .int .i64 c, .int .i64 more, .int .i64 extra, .int .i64 factor] w (Calm w (.int .i64 (needI a b c more extra factor))) := by
  obtain ⟨hba, hbb, hbc⟩ := hb
  have h7 : decide (a < 0) = true ∨ (decide (a < 0) = false ∧ decide (65536 < a) = true) ∨ (decide (a < 0) = false ∧ decide (65536 < a) = false ∧ decide (b < 0) = true) ∨ (decide (a < 0) = false ∧ decide (65536 < a) = false ∧ decide (b < 0) = false ∧ decide (65536 < b) = true) ∨
      (decide (a < 0) = false ∧ decide (65536 < a) = false ∧ decide (b < 0) = false ∧ decide (65536 < b) = false ∧ decide (c < 0) = true) ∨ (decide (a < 0) = false ∧ decide (65536 < a) = false ∧ decide (b < 0) = false ∧ decide (65536 < b) = false ∧ decide (c < 0) = false ∧ decide (65536 < c) = true) ∨
      (decide (a < 0) = false ∧ decide (65536 < a) = false ∧ decide (b < 0) = false ∧ decide (65536 < b) = false ∧ decide (c < 0) = false ∧ decide (65536 < c) = false) := by
    simp only [decide_eq_true_eq, decide_eq_false_iff_not]
    omega
  have HB : Hid ((decide (a < 0) = true ∨ decide (65536 < a) = true ∨ decide (b < 0) = true ∨ decide (65536 < b) = true ∨ decide (c < 0) = true ∨ decide (65536 < c) = true) → needI a b c more extra factor = -1) := fun h => by
    unfold needI
    rw [if_neg]
    rintro ⟨⟨a1, a2⟩, ⟨b1, b2⟩, ⟨c1, c2⟩⟩
    simp only [decide_eq_true_eq] at h
    omega
  rcases h7 with h1 | ⟨h1, h2⟩ | ⟨h1, h2, h3⟩ | ⟨h1, h2, h3, h4⟩ | ⟨h1, h2, h3, h4, h5⟩ | ⟨h1, h2, h3, h4, h5, h6⟩ | ⟨h1, h2, h3, h4, h5, h6⟩
  · have HE : Hid (needI a b c more extra factor = -1) := HB.out (.inl h1)
    clear hba hbb hbc hm hx hf HB
    go_enter Tryz.func43, Tryz.ntmps43
    go_wp2_with fail
    go_ret
    exact ⟨by rw [HE.out]; rfl, Below.refl _ _⟩
  · have HE : Hid (needI a b c more extra factor = -1) := HB.out (.inr (.inl h2))
    clear hba hbb hbc hm hx hf HB
    go_enter Tryz.func43, Tryz.ntmps43
    go_wp2_with fail
    go_ret
    exact ⟨by rw [HE.out]; rfl, Below.refl _ _⟩
  · have HE : Hid (needI a b c more extra factor = -1) := HB.out (.inr (.inr (.inl h3)))
    clear hba hbb hbc hm hx hf HB
    go_enter Tryz.func43, Tryz.ntmps43
    go_wp2_with fail
    go_ret
    exact ⟨by rw [HE.out]; rfl, Below.refl _ _⟩
  · have HE : Hid (needI a b c more extra factor = -1) := HB.out (.inr (.inr (.inr (.inl h4))))
    clear hba hbb hbc hm hx hf HB
    go_enter Tryz.func43, Tryz.ntmps43
    go_wp2_with fail
    go_ret
    exact ⟨by rw [HE.out]; rfl, Below.refl _ _⟩
  · have HE : Hid (needI a b c more extra factor = -1) := HB.out (.inr (.inr (.inr (.inr (.inl h5)))))
    clear hba hbb hbc hm hx hf HB
    go_enter Tryz.func43, Tryz.ntmps43
    go_wp2_with fail
    go_ret
    exact ⟨by rw [HE.out]; rfl, Below.refl _ _⟩
  · have HE : Hid (needI a b c more extra factor = -1) := HB.out (.inr (.inr (.inr (.inr (.inr h6)))))
    clear hba hbb hbc hm hx hf HB
    go_enter Tryz.func43, Tryz.ntmps43
    go_wp2_with fail
    go_ret
    exact ⟨by rw [HE.out]; rfl, Below.refl _ _⟩
  · have hva : vld a := ⟨by have := of_decide_eq_false h1; omega, by have := of_decide_eq_false h2; omega⟩
    have hvb : vld b := ⟨by have := of_decide_eq_false h3; omega, by have := of_decide_eq_false h4; omega⟩
    have hvc : vld c := ⟨by have := of_decide_eq_false h5; omega, by have := of_decide_eq_false h6; omega⟩
    have HE : Hid (needI a b c more extra factor = extra + factor * (xhI (a + b + c + more) + 2)) := if_pos ⟨hva, hvb, hvc⟩
    have hxx := hx hva hvb hvc
    obtain ⟨a1, a2⟩ := hva
    obtain ⟨b1, b2⟩ := hvb
    obtain ⟨c1, c2⟩ := hvc
    have w1 : IntKind.i64.wrap (a + b) = a + b := by rw [IntKind.wrap_i64]; omega
    have w2 : IntKind.i64.wrap (a + b + c) = a + b + c := by rw [IntKind.wrap_i64]; omega
    have w3 : IntKind.i64.wrap (a + b + c + more) = a + b + c + more := by rw [IntKind.wrap_i64]; omega
    have HR : Hid (in64 (a + b + c + more)) := ⟨by omega, by omega⟩
    have hX := xhI_in (n := a + b + c + more) (by omega) (by omega)
    have HXR := Lib.hid hX
    have HFX : Hid (0 ≤ factor ∧ factor ≤ 12 ∧ 0 ≤ extra ∧ extra ≤ 1000000) := ⟨hf.1, hf.2, hxx.1, hxx.2⟩
    clear hba hbb hbc hm hx hf HB hxx hX a1 a2 b1 b2 c1 c2
    go_enter Tryz.func43, Tryz.ntmps43
    go_wp2_with fail
    refine (refMaxHeight_any (a + b + c + more) w HR.out.1 HR.out.2).mono ?_
    rintro e w5 ⟨rfl, hb5⟩
    have HB5 := Lib.hid hb5
    generalize xhI (a + b + c + more) = X at HE HXR ⊢
    have w4 : IntKind.i64.wrap (X + 2) = X + 2 := by rw [IntKind.wrap_i64]; have := HXR.out; omega
    have w5' : IntKind.i64.wrap (factor * (X + 2)) = factor * (X + 2) := by
      have h1 := HXR.out
      have h2 := HFX.out
      have h3 : 0 ≤ factor * (X + 2) := Int.mul_nonneg h2.1 (by omega)
      have h4 : factor * (X + 2) ≤ 12 * 82 := Int.mul_le_mul h2.2.1 (by omega) (by omega) (by decide)
      rw [IntKind.wrap_i64]; omega
    have w6' : IntKind.i64.wrap (extra + factor * (X + 2)) = extra + factor * (X + 2) := by
      have h1 := HXR.out
      have h2 := HFX.out
      have h3 : 0 ≤ factor * (X + 2) := Int.mul_nonneg h2.1 (by omega)
      have h4 : factor * (X + 2) ≤ 12 * 82 := Int.mul_le_mul h2.2.1 (by omega) (by omega) (by decide)
      rw [IntKind.wrap_i64]; omega
    clear hb5
    go_wp2_with fail
    go_ret
    exact ⟨by rw [HE.out]; rfl, HB5.out⟩
def insI (n : Int) : Int := needI n 0 0 1 0 4
def delI (n : Int) : Int := needI n 0 0 0 0 4
def joinI (l r : Int) : Int := needI l r 0 1 0 4
def splitI (n : Int) : Int := needI n 0 0 0 0 12
theorem in0 : in64 0 := ⟨by decide, by decide⟩
theorem refJoin_any (l r : Int) (w : World) (hl : in64 l) (hr : in64 r) : Calls Tryz.prog 29 #[.int .i64 l, .int .i64 r] w (Calm w (.int .i64 (joinI l r))) := by
  have HC := Lib.hid (refNeed_any l r 0 1 0 4 w ⟨hl, hr, in0⟩ ⟨by decide, by decide⟩ (fun _ _ _ => ⟨by decide, by decide⟩) ⟨by decide, by decide⟩)
  clear hl hr
  go_enter Tryz.func29, Tryz.ntmps29
  go_wp2_with fail
  refine HC.out.mono ?_
  rintro e w1 ⟨rfl, hb1⟩
  have HB := Lib.hid hb1
  clear hb1
  go_wp2_with fail
  go_ret
  exact ⟨rfl, HB.out⟩
end Go.Proofs.YtckkmmdibgoajaaGreat
set_option linter.unusedVariables false
set_option linter.unusedSimpArgs false
namespace Go.Proofs.YtckkmmdibgoajaaGreat
open Go.RowKit
/-- j is the tree t with the entries l in B; what A had stays; one reference more, to j -/
structure Got (A : Ar) (held : Nat → Nat) (B : Ar) (j : Nat) (t : Tr) (l : List En) : Prop where
  kept : A.Kept B
  gen : ∀ i, A.σ.on i = true → B.σ.gen i = A.σ.gen i
  inv : B.Inv [] (pls held j)
  agg : B.Agg
  sub : Sub B j t
  ents : t.ents B.nd = l
  bal : t.bal = true
theorem Got.tree {A B : Ar} {held : Nat → Nat} {j : Nat} {t : Tr} {l : List En} (h : Got A held B j t l) (hu : Up l) : TreeAt B j t l := ⟨⟨_, h.inv⟩, h.agg, h.sub, h.bal, h.ents, hu⟩
theorem Got.idx {A B : Ar} {held : Nat → Nat} {j : Nat} {t : Tr} {l : List En} (h : Got A held B j t l) : j < 4294967296 := by
  rcases h.sub.idx with h1 | h1
  · omega
  · have := h.inv.ok.on j h1; have := h.inv.ok.cap2; omega
theorem TreeAt.kept {A B : Ar} {held : Nat → Nat} {i : Nat} {t : Tr} {l : List En} (h : TreeAt A i t l) (hk : A.Kept B) (hB : B.Inv [] held) (hg : B.Agg) : TreeAt B i t l :=
  ⟨⟨_, hB⟩, hg, h.sub.kept hk, h.bal, (Tr.ents_kept hk h.sub).trans h.ents, h.up⟩
theorem hof_pls (l : List Nat) (i : Nat) : pls (hof l) i = hof (l ++ [i]) := by
  by_cases h : i = 0
  · subst h; rw [pls_zero, hof_zero]
  · unfold pls; rw [if_neg h, hof_more l h]
/-- two trees -/
structure Got2 (A : Ar) (held : Nat → Nat) (B : Ar) (j : Nat) (t : Tr) (l : List En) (k : Nat) (u : Tr) (m : List En) : Prop where
  kept : A.Kept B
  gen : ∀ i, A.σ.on i = true → B.σ.gen i = A.σ.gen i
  inv : B.Inv [] (pls (pls held j) k)
  agg : B.Agg
  sub : Sub B j t
  ents : t.ents B.nd = l
  bal : t.bal = true
  sub2 : Sub B k u
  ents2 : u.ents B.nd = m
  bal2 : u.bal = true
/-- numbers of 64 bits -/
def WfL (l : List En) : Prop := ∀ y ∈ l, i64R y.key ∧ i64R y.val
def AllLt (l : List En) (k : Int) : Prop := ∀ y ∈ l, y.key < k
def AllGt (l : List En) (k : Int) : Prop := ∀ y ∈ l, k < y.key
/-- how often Join and Concat may read -/
def joinBd (n m : Nat) : Int := 60 * ((xh (n + m + 1) : Int) + 2)
def splitBd (n : Nat) : Int := 120 * ((xh n : Int) + 2)
def JoinQ (A : Ar) (rd : Int) (held : Nat → Nat) (L R : Nat) (ll lr : List En) (e : En) (en : Ending) (B : Ar) (rd' : Int) : Prop :=
  rd ≤ rd' ∧ rd' ≤ rd + joinBd ll.length lr.length ∧ (
  (¬ (AllLt ll e.key ∧ AllGt lr e.key) ∧ en = .returned (.tuple #[.int .u32 0, .int .i64 7]) ∧ B = A) ∨
  ((AllLt ll e.key ∧ AllGt lr e.key) ∧ (A.σ.free.length : Int) < joinI (ll.length : Int) (lr.length : Int) ∧ en = .returned (.tuple #[.int .u32 0, .int .i64 2]) ∧ B = A) ∨
  ((AllLt ll e.key ∧ AllGt lr e.key) ∧ joinI (ll.length : Int) (lr.length : Int) ≤ (A.σ.free.length : Int) ∧ ∃ (j : Nat) (t : Tr), en = .returned (.tuple #[.int .u32 (j : Int), .int .i64 0]) ∧ Got A held B j t (ll ++ e :: lr) ∧
    (Proofs.YtckkmmdibgoajaaGreat.bal (ll.length : Int) (lr.length : Int) = true → (B.nd j).left = L ∧ (B.nd j).right = R ∧ B.σ.free.length + 1 = A.σ.free.length)))
def CatQ (A : Ar) (rd : Int) (held : Nat → Nat) (L R : Nat) (ll lr : List En) (en : Ending) (B : Ar) (rd' : Int) : Prop :=
  rd ≤ rd' ∧ rd' ≤ rd + joinBd ll.length lr.length ∧ (
  ((ll = [] ∨ lr = []) ∧ ∃ t : Tr, en = .returned (.tuple #[.int .u32 ((L + R : Nat) : Int), .int .i64 0]) ∧ Got A held B (L + R) t (ll ++ lr) ∧ B.σ.free.length = A.σ.free.length) ∨
  ((ll ≠ [] ∧ lr ≠ []) ∧ ¬ Up (ll ++ lr) ∧ en = .returned (.tuple #[.int .u32 0, .int .i64 7]) ∧ B = A) ∨
  ((ll ≠ [] ∧ lr ≠ []) ∧ Up (ll ++ lr) ∧ (A.σ.free.length : Int) < joinI (ll.length : Int) (lr.length : Int) ∧ en = .returned (.tuple #[.int .u32 0, .int .i64 2]) ∧ B = A) ∨
  ((ll ≠ [] ∧ lr ≠ []) ∧ Up (ll ++ lr) ∧ joinI (ll.length : Int) (lr.length : Int) ≤ (A.σ.free.length : Int) ∧ ∃ (j : Nat) (t : Tr), en = .returned (.tuple #[.int .u32 (j : Int), .int .i64 0]) ∧ Got A held B j t (ll ++ lr)))
def lowE (l : List En) (k : Int) : List En := l.filter fun y => decide (y.key < k)
def highE (l : List En) (k : Int) : List En := l.filter fun y => decide (k < y.key)
/-- the tree needs no change -/
def wholeE (l : List En) (k : Int) : Prop := getE l k = none ∧ (lowE l k = [] ∨ highE l k = [])
def SplitQ (A : Ar) (rd : Int) (held : Nat → Nat) (i : Nat) (l : List En) (k : Int) (en : Ending) (B : Ar) (rd' : Int) : Prop :=
  rd ≤ rd' ∧ rd' ≤ rd + splitBd l.length ∧ (
  (wholeE l k ∧ ∃ (x y : Nat) (tx ty : Tr), en = .returned (.tuple #[.int .u32 (x : Int), .int .i64 0, .bool false, .int .u32 (y : Int), .int .i64 0]) ∧ Got2 A held B x tx (lowE l k) y ty (highE l k) ∧ (lowE l k ≠ [] → x = i) ∧ (highE l k ≠ [] → y = i) ∧ B.σ.free.length = A.σ.free.length) ∨
  (¬ wholeE l k ∧ (A.σ.free.length : Int) < splitI (l.length : Int) ∧ en = .returned (.tuple #[.int .u32 0, .int .i64 0, .bool false, .int .u32 0, .int .i64 2]) ∧ B = A) ∨
  (¬ wholeE l k ∧ splitI (l.length : Int) ≤ (A.σ.free.length : Int) ∧ ∃ (x y : Nat) (tx ty : Tr), en = .returned (.tuple #[.int .u32 (x : Int), .int .i64 ((getE l k).elim 0 (·.val)), .bool (getE l k).isSome, .int .u32 (y : Int), .int .i64 0]) ∧ Got2 A held B x tx (lowE l k) y ty (highE l k)))
structure JoinImpl (I : AImpl) : Prop where
  join : ∀ {p : Value} {A : Ar} {rd : Int} {F : Nat → Prop} {held : Nat → Nat} {L R : Nat} {tl tr : Tr} {ll lr : List En} (e : En) (w : World), I.Is w p A rd F → A.Inv [] held → (∀ j, held j ≤ 1048000) → TreeAt A L tl ll → TreeAt A R tr lr → WfL ll → WfL lr → 0 ≤ rd → rd ≤ 1099511000000 → i64R e.key → i64R e.val →
    Calls Tryz.prog 33 #[p, .int .u32 (L : Int), .agg #[.int .i64 e.key, .int .i64 e.val], .int .u32 (R : Int)] w (Mut I p F (JoinQ A rd held L R ll lr e) w)
  concat : ∀ {p : Value} {A : Ar} {rd : Int} {F : Nat → Prop} {held : Nat → Nat} {L R : Nat} {tl tr : Tr} {ll lr : List En} (w : World), I.Is w p A rd F → A.Inv [] held → (∀ j, held j ≤ 1048000) → TreeAt A L tl ll → TreeAt A R tr lr → WfL ll → WfL lr → 0 ≤ rd → rd ≤ 1099511000000 →
    Calls Tryz.prog 37 #[p, .int .u32 (L : Int), .int .u32 (R : Int)] w (Mut I p F (CatQ A rd held L R ll lr) w)
  split : ∀ {p : Value} {A : Ar} {rd : Int} {F : Nat → Prop} {held : Nat → Nat} {i : Nat} {t : Tr} {l : List En} (k : Int) (w : World), I.Is w p A rd F → A.Inv [] held → (∀ j, held j ≤ 1048000) → TreeAt A i t l → WfL l → 0 ≤ rd → rd ≤ 1099511000000 → i64R k →
    Calls Tryz.prog 42 #[p, .int .u32 (i : Int), .int .i64 k] w (Mut I p F (SplitQ A rd held i l k) w)
end Go.Proofs.YtckkmmdibgoajaaGreat
set_option linter.unusedVariables false
namespace Go.Proofs.YtckkmmdibgoajaaGreat
/-- balanced, by weights -/
def wb (a b : Nat) : Prop := a ≤ 3 * b ∧ b ≤ 3 * a
theorem wb.symm {a b : Nat} (h : wb a b) : wb b a := ⟨h.2, h.1⟩
/-- how heavy the heavy side may be -/
def hv (l r : Nat) : Prop := 3 * r ≤ 13 * l ∨ r ≤ 3 * l + 3
theorem wb_single {l r a b : Nat} (hl : 0 < l) (ha : 0 < a) (hb : 0 < b) (hr : a + b = r) (hab : wb a b) (hn : 3 * l < r) (hh : hv l r) (hs : a < 2 * b) : wb l a ∧ wb (l + a) b := by
  unfold wb hv at *
  omega
theorem wb_double {l r a b c d : Nat} (hl : 0 < l) (hb : 0 < b) (hc : 0 < c) (hd : 0 < d) (hr : a + b = r) (hab : wb a b) (hn : 3 * l < r) (hh : hv l r) (hs : 2 * b ≤ a) (hcd : wb c d) (ha : c + d = a) : wb l c ∧ wb d b ∧ wb (l + c) (d + b) := by
  unfold wb hv at *
  omega
/-- a light tree is joined to the inner side of a balanced node -/
theorem hv_join {l r x : Nat} (h : wb l r) (hx : 3 * x < l + r) : hv l (r + x) := by
  unfold wb hv at *
  omega
/-- one key less on the light side -/
theorem hv_less {l r : Nat} (h : wb (l + 1) r) : hv l r := by
  unfold wb hv at *
  omega
/-- one key more on the heavy side -/
theorem hv_more {l r : Nat} (h : wb l r) : hv l (r + 1) := by
  unfold wb hv at *
  omega
end Go.Proofs.YtckkmmdibgoajaaGreat
