/- The program's audit: markReachable. -/
import Derived.Test.YticmaddcomemhaaAuOk5
import Derived.Test.YticmaddcomemhaaAuOk6
import Derived.Deep.DeepCutAuto
import Derived.Laws.NewBlocks
set_option linter.unusedVariables false
namespace Go.Proofs.Yticmaddcomemhaa
open Go.RowKit
section
variable {q mb wb n c m d : Nat} {w0 wr w w' : World} {a b : Option Addr} {B : Nat → Bool} {st : List Nat} {x : Value} {S : Nat → Sl}
/-- the work without its last element -/
theorem VSt.pop {t : List Nat} {y g xc : Nat} (h : VSt q mb wb w0 a b n c m d B (t ++ [y]) (.slice (some ⟨g, 0, none⟩) (t.length + 1) xc) wr) :
    VSt q mb wb w0 a b n c m d B t (.slice (some ⟨g, 0, none⟩) t.length xc) (wr.setCell ⟨wb, 0, none⟩ (.slice (some ⟨g, 0, none⟩) t.length xc)) ∧ OthV wr (wr.setCell ⟨wb, 0, none⟩ (.slice (some ⟨g, 0, none⟩) t.length xc)) := by
  have ho := h.ord
  have hw := h.work
  rw [List.length_append] at hw
  have h1 := row_cut hw (m := t.length) (by simp)
  rw [show (u32s (t ++ [y])).take t.length = u32s t by rw [u32s_app]; simp [u32s]] at h1
  refine ⟨⟨?_, ?_, ?_, ⟨_, _, rfl⟩, ?_, ?_, fun z hz => h.lt z (by simp [hz]), h.below.setCell (by show q ≤ wb; omega) _, h.ord⟩, fun k cur hk => ?_⟩
  · rw [heap_setCell_other _ _ _ _ (by show q ≠ wb; omega)]; exact h.db
  · rw [heap_setCell_other _ _ _ _ (by show mb ≠ wb; omega)]; exact h.mbx
  · rw [heap_setCell_same _ _ _ _ _ _ h.wbx]; rfl
  · exact row_keep h.row fun k hk => heap_setCell_other _ _ _ _ (by simp [Value.ownBlock] at hk; show k ≠ wb; omega)
  · exact row_keep h1 fun k hk => heap_setCell_other _ _ _ _ (by have := row_from h1 k hk; show k ≠ wb; omega)
  · rw [heap_setCell_other _ _ _ _ (fun e => ?_)]
    · exact hk
    · change k = wb at e
      rw [e, h.wbx] at hk
      simp at hk
/-- the search at a point: ks are the roots that were visited, of y the children from p on are not yet -/
def VRel (q mb wb : Nat) (w0 : World) (a b : Option Addr) (n c m d : Nat) (S : Nat → Sl) (rs ks : List Nat) (y p N : Nat) (wr : World) : Prop :=
  ∃ B st x, VSt q mb wb w0 a b n c m d B st x wr ∧ PInv S n rs ks B st y p ∧ 2 * um n B + st.length ≤ N
set_option maxHeartbeats 8000000 in
set_option maxRecDepth 100000 in
theorem pMarks_any {w : World} {a b ra : Option Addr} {n c m d rc L : Nat} {S : Nat → Sl} (rs : List Nat) (hL : rs.length = L) (h : SlotsAt w a n S) (hr : U32At w ra rs) (hn : n ≤ 65536) (hl : L ≤ 1000000) :
    Calls Try.prog 24 #[.agg #[.slice a n c, .slice b m d], .slice ra L rc] w (MadeMarks w S n rs) := by
  have hmf : ∀ (fn : Fn) (first cap : Array Value) (w : World), (Instr.makeFunc fn first cap).run Try.prog w = .ok (.func fn first cap) w := fun _ _ _ _ => rfl
  obtain ⟨i0, hi, hz0, hz1, hz2⟩ := info_parts bInfo
  have hni : (n : Int) ≤ 65536 := by omega
  have hni0 : (0 : Int) ≤ (n : Int) := by omega
  have hLi : (L : Int) ≤ 1000000 := by omega
  have hb1 : Below w.heap.size w (w.alloc (Obj.cells #[Value.slice a n c, Value.slice b m d] 25)) := (Below.refl _ _).alloc (Nat.le_refl _) _
  have HB := Lib.hid hb1
  have HS := Lib.hid h
  have HR := Lib.hid hr
  have HL := Lib.hid hL
  have hsz : (w.alloc (Obj.cells #[Value.slice a n c, Value.slice b m d] 25)).heap.size = w.heap.size + 1 := by simp
  have HZ := Lib.hid hsz
  have hX := DBox.new w a b n c m d
  obtain ⟨hc0, hc1⟩ := hX.cells
  have HX := Lib.hid hX
  clear hb1 h hr hsz hL hX
  go_enter Try.func24, Try.ntmps24
  go_upto_region 1 with fail
  generalize hW1 : w.alloc (Obj.cells #[Value.slice a n c, Value.slice b m d] 25) = w1 at *
  clear hW1
  generalize hQ : w.heap.size = q at *
  have HQ := Lib.hid hQ
  clear hQ
  go_upto_region 2 with (refine wpList_make_full _ rfl (.tmp 14) (.tmp 14) 50 rfl (q + 1) 4 i0 (.bool false) 1 Try.underlying50 hi hz0 hz1 .i64 .i64 (n : Int) (n : Int) n rfl rfl rfl rfl (by rw [hz2]; omega) (by unfold maxLen; omega) (Nat.le_of_eq HZ.out.symm) ?_; intro w2 ho2 hg2)
  rw [boolR_zero, HZ.out] at ho2
  have hb2 : Below (q + 1) w1 w2 := (Below.refl _ _).grown hg2 (Nat.le_of_eq HZ.out.symm) (fun k hk => by cases hk)
  have hs2 : q + 1 < w2.heap.size := (row_lt ho2 (q + 1) rfl).2
  rw [HZ.out]
  have hX2 := HX.out.below hb2 (Nat.lt_succ_self q)
  have HBB := Lib.hid (HB.out.trans (hb2.mono (Nat.le_succ q)))
  clear hc0 hc1 hg2 hb2
  obtain ⟨mb, hmb⟩ : ∃ mb, w2.heap.size = mb := ⟨_, rfl⟩
  have HMB := Lib.hid hmb
  have hV : VSt q mb (mb + 1) w a b n c m d (fun _ => false) [] (.slice none 0 0) ((w2.alloc (Obj.cells #[Value.slice (some ⟨q + 1, 0, none⟩) n n] 50)).alloc (Obj.cells #[Value.slice none 0 0] 23)) := by
    subst hmb
    have e1 := below_new w2 (Obj.cells #[Value.slice (some ⟨q + 1, 0, none⟩) n n] 50)
    have e2 := below_new (w2.alloc (Obj.cells #[Value.slice (some ⟨q + 1, 0, none⟩) n n] 50)) (Obj.cells #[Value.slice none 0 0] 23)
    have e3 := below_chain e1 e2
    refine ⟨(e3.block q (by omega)).trans hX2.box, ?_, ?_, ⟨none, 0, rfl⟩, row_below ho2 e3, World.ownsRow_nil _ _ _ _, fun y hy => (by cases hy), HBB.out.trans (e3.mono (by omega)), by omega⟩
    · exact (e2.block _ (by simp)).trans (heap_alloc_new w2 _)
    · have := heap_alloc_new (w2.alloc (Obj.cells #[Value.slice (some ⟨q + 1, 0, none⟩) n n] 50)) (Obj.cells #[Value.slice none 0 0] 23)
      rw [show (w2.alloc (Obj.cells #[Value.slice (some ⟨q + 1, 0, none⟩) n n] 50)).heap.size = w2.heap.size + 1 by simp] at this
      exact this
  have HR0 : Hid (VRel q mb (mb + 1) w a b n c m d S rs (rs.take 0) 0 2 (2 * n) ((w2.alloc (Obj.cells #[Value.slice (some ⟨q + 1, 0, none⟩) n n] 50)).alloc (Obj.cells #[Value.slice none 0 0] 23))) := ⟨_, _, _, hV, PInv.start S n rs, by have := um_le (fun _ => false) n; simp; omega⟩
  clear hV hX2 ho2 hs2 hmb
  go_upto_region 3 with fail
  rw [HMB.out]
  generalize (w2.alloc (Obj.cells #[Value.slice (some ⟨q + 1, 0, none⟩) n n] 50)).alloc (Obj.cells #[Value.slice none 0 0] 23) = w3 at HR0 ⊢
  have HN2 : Hid (2 * n ≤ 140000) := by show 2 * n ≤ 140000; omega
  go_wp2_with fail
  go_loopw [19] (fun i wr => ∃ j : Nat, j ≤ L ∧ i = .int .i64 (j : Int) ∧ VRel q mb (mb + 1) w a b n c m d S rs (rs.take j) 0 2 (2 * n) wr) (fun i _ => L - (intOf i).toNat)
  case atStart => exact ⟨0, Nat.zero_le _, rfl, HR0.out⟩
  case round =>
    clear HR0
    obtain ⟨j, hj, rfl, B, st, x, hV, hP, hN⟩ := hrel
    have HV := Lib.hid hV
    have HP := Lib.hid hP
    have HNN := Lib.hid hN
    by_cases hlt : j < L
    · have hjl : j < rs.length := by rw [HL.out]; exact hlt
      have hji : (j : Int) < (L : Int) := by omega
      have hj0 : (0 : Int) ≤ (j : Int) := by omega
      have hU := HR.out.below (by rw [HQ.out]; exact hV.below)
      obtain ⟨b2, off2, rfl, hlb, hcell⟩ := hU.cell j hjl
      have hX4 : rs.getD j 0 < 4294967296 := hU.lt _ (getD_mem hjl)
      have HT : Hid (rs.take (j + 1) = rs.take j ++ [rs.getD j 0] ∧ (Al S n (rs.getD j 0) → Rch S n rs (rs.getD j 0))) := ⟨by rw [List.take_succ_eq_append_getElem hjl, List.getD_eq_getElem?_getD, List.getElem?_eq_getElem hjl]; rfl, fun ha => .root _ (getD_mem hjl) ha⟩
      generalize rs.getD j 0 = X at hcell hX4 HT
      have hXi : (X : Int) < 4294967296 := by omega
      clear hU hjl hV hP hN
      go_wp2_with fail
      refine (visit_any X HV.out HS.out HQ.out hn hX4 (by have := HNN.out; have := HN2.out; omega)).mono ?_
      rintro e w4 ⟨rfl, _, x4, hV4⟩
      have hP4 := HP.out.visit HT.out.2
      have HR4 : Hid (VRel q mb (mb + 1) w a b n c m d S rs (rs.take (j + 1)) 0 2 (2 * n) w4) :=
        ⟨_, _, x4, hV4, by rw [HT.out.1]; exact hP4.1.root hP4.2, Nat.le_trans (vis_num X B st) HNN.out⟩
      clear hV4 hP4 hcell
      go_wp2
      exact ⟨⟨j + 1, by omega, by go_num, HR4.out⟩, by simp [intOf]; omega⟩
    · have hjL : j = L := by omega
      have HR5 : Hid (VRel q mb (mb + 1) w a b n c m d S rs rs 0 2 (2 * n) wr) := by
        have h9 := hP
        rw [List.take_of_length_le (by rw [HL.out]; omega)] at h9
        exact ⟨B, st, x, hV, h9, hN⟩
      rw [hjL]
      clear hV hP hN hjL hlt HV HP HNN hj
      go_wp2_with fail
      go_loopg [10] (2 * n) (fun gk x wr => gk ≤ 140000 ∧ ∃ y, VRel q mb (mb + 1) w a b n c m d S rs rs y 2 gk wr)
      case atStart => exact ⟨HN2.out, 0, HR5.out⟩
      case round => as_aux_lemma =>
        clear HR5
        obtain ⟨hgk, y0, B, st, x, hV, hP, hN⟩ := hrel
        obtain ⟨c0, c1, c2, c3⟩ := hV.cells
        obtain ⟨xa, xc, rfl⟩ := hV.val
        rcases List.eq_nil_or_concat st with rfl | ⟨t, y, rfl⟩
        · have HV := Lib.hid hV
          have HP := Lib.hid hP
          clear hV hP hN
          rw [show ([] : List Nat).length = 0 from rfl] at c3
          go_wp2
          go_ret
          exact ⟨q + 1, B, rfl, row_mono HV.out.row (by rw [HQ.out]; omega), fun j hj => HP.out.done hj, by rw [HQ.out]; exact HV.out.below⟩
        · rw [List.concat_eq_append] at *
          obtain ⟨hal, hBy⟩ := hP.stack y (by simp)
          obtain ⟨j, rfl⟩ : ∃ j, y = j + 1 := ⟨y - 1, by have := hal.1; omega⟩
          have hjn : j < n := by have := hal.2.1; omega
          have hji : (j : Int) < (n : Int) := by omega
          have hj0 : (0 : Int) ≤ (j : Int) := by omega
          have hyi : ((j + 1 : Nat) : Int) = (j : Int) + 1 := by omega
          have hpp := hP.pop
          have hrch : Rch S n rs (j + 1) := hP.sound j hjn hBy
          have HKID : Hid ((Al S n (S j).nd.left → Rch S n rs (S j).nd.left) ∧ (Al S n (S j).nd.right → Rch S n rs (S j).nd.right)) := ⟨fun ha => Rch.kid (S := S) (j + 1) 0 hrch (by decide) ha, fun ha => Rch.kid (S := S) (j + 1) 1 hrch (by decide) ha⟩
          obtain ⟨T, hT⟩ : ∃ T, t.length = T := ⟨_, rfl⟩
          have hTl : (t ++ [j + 1]).length = T + 1 := by rw [List.length_append, hT]; rfl
          have hw := hV.work
          rw [hTl] at hw
          obtain ⟨g, rfl⟩ := row_head hw (by omega)
          have hcap := row_caps hw
          have hcy := hw.cellAt T (by omega)
          rw [← hT, u32s_last, hT, hyi] at hcy
          have hgl : q + 1 < g ∧ g < wr.heap.size := ⟨by have := row_from hw g rfl; have := hV.ord; omega, (row_lt hw g rfl).2⟩
          have hSS := HS.out.below (by rw [HQ.out]; exact hV.below)
          obtain ⟨b', off, rfl, hlb, d0, d1, d2, d3, d4, d5, d6, d7, d8, d9, d10⟩ := hSS.all hjn
          obtain ⟨hkl, hkr⟩ := hSS.kid j hjn
          have hnum := hN
          rw [hTl] at hnum
          have hTi : (T : Int) + 1 ≤ 140000 := by omega
          have hTi0 : (0 : Int) ≤ (T : Int) := by omega
          have hxc : (T : Int) + 1 ≤ (xc : Int) := by omega
          have hxc2 : (xc : Int) ≤ 9223372036854775807 := by have := hcap.2; unfold maxLen at this; omega
          have hl3 := hV.lt3
          have hord := hV.ord
          have hq1 : ¬ q = wr.heap.size := by omega
          have hq2 : ¬ wr.heap.size = q := by omega
          have hq3 : ¬ mb + 1 = wr.heap.size := by omega
          have hq4 : ¬ wr.heap.size = mb + 1 := by omega
          have hq5 : ¬ g = wr.heap.size := by omega
          have hq6 : ¬ wr.heap.size = g := by omega
          have hq7 : ¬ b' = wr.heap.size := by omega
          have hq8 : ¬ wr.heap.size = b' := by omega
          have hr1 : q < wr.heap.size := by omega
          have hr2 : mb + 1 < wr.heap.size := by omega
          have hr3 : g < wr.heap.size := hgl.2
          have HV := Lib.hid hV
          have HPP := Lib.hid hpp
          have HNU := Lib.hid hnum
          have HTT := Lib.hid hT
          have HTL := Lib.hid hTl
          rw [hTl] at c3
          clear hV hP hN hal hBy hpp hrch hw hcap hSS hnum hT hTl hgl hl3 hord hyi
          go_upto_region 11 with fail
          go_cut [11] (fun s11 wx => ∃ nb, s11 = .pointer (some ⟨nb, 0, none⟩) ∧ wx.heap[nb]? = some (.cells (nd8 (S j).nd) 44 (0, 0)) ∧ Below wr.heap.size wr wx)
          case first => as_aux_lemma =>
            go_region
            all_goals (go_wp2_with fail; go_meet; exact ⟨_, rfl, heap_alloc_new wr _, (below_new _ _).drew⟩)
          case' rest => as_aux_lemma =>
            rename World => w5
            obtain ⟨nb, rfl, hnb, hb5⟩ := hcut
            have h5 := HV.out.from hb5
            rw [HTL.out] at h5
            have h6 := h5
            rw [← HTT.out] at h6
            obtain ⟨h7, ho7⟩ := h6.pop
            rw [HTT.out] at h7 ho7
            have hn7 := ho7 _ _ hnb
            have H7 := Lib.hid h7
            have HN7 := Lib.hid hn7
            clear c0 c1 c2 c3 d0 d1 d2 d3 d4 d5 d6 d7 d8 d9 d10 hcy hq1 hq2 hq3 hq4 hq5 hq6 hq7 hq8 hr1 hr2 hr3 hb5 hlb
            obtain ⟨c0, c1, c2, c3⟩ := h5.cells
            have hf3 := frozen_of_row w5 (mb + 1) 0 _ _ h5.wbx
            have h5l := h5.lt3
            clear h5 h6 h7 ho7 hn7 hnb
            go_upto_region 13 with fail
            clear c0 c1 c2 c3 hf3 h5l
            generalize w5.setCell ⟨mb + 1, 0, none⟩ (.slice (some ⟨g, 0, none⟩) T xc) = w6 at H7 HN7 ⊢
            obtain ⟨e2, _, _⟩ := nd_cells HN7.out
            go_wp2_with fail
            refine (visit_any _ H7.out HS.out HQ.out hn hkl (by have := HTT.out; omega)).mono ?_
            rintro e w8 ⟨rfl, ho8, x8, hV8⟩
            have hn8 := ho8 _ _ HN7.out
            have hP8 := HPP.out.visit HKID.out.1
            have hP9 := hP8.1.next (p := 0) (x := j) hP8.2
            have hn9 := vis_num (n := n) (S := S) (S j).nd.left B t
            have HP9 := Lib.hid hP9
            have HN9 := Lib.hid hn9
            have HN8 := Lib.hid hn8
            have hlen8 : (visS S n B t (S j).nd.left).length ≤ 2000000 := by have := HNU.out; have := HTT.out; omega
            have HL8 := Lib.hid hlen8
            have HV8 := Lib.hid hV8
            clear e2 ho8 hV8 hP8 hP9 hn9 hlen8 hn8
            obtain ⟨_, e3, _⟩ := nd_cells HN8.out
            go_wp2_with fail
            refine (visit_any _ HV8.out HS.out HQ.out hn hkr HL8.out).mono ?_
            rintro e w9 ⟨rfl, _, x9, hV9⟩
            have hP10 := HP9.out.visit HKID.out.2
            have hP11 := hP10.1.next (p := 1) (x := j) hP10.2
            have hn11 := vis_num (n := n) (S := S) (S j).nd.right (visB S n B (S j).nd.left) (visS S n B t (S j).nd.left)
            have HP11 := Lib.hid hP11
            have HN11 := Lib.hid hn11
            have HV9 := Lib.hid hV9
            clear e3 hV9 hP10 hP11 hn11
            go_wp2_with fail
            go_roundg (gk - 1)
            case measure => have := HNU.out; omega
            case rel => exact ⟨by omega, j + 1, _, _, x9, HV9.out, HP11.out, by have := HNU.out; have := HN9.out; have := HN11.out; have := HTT.out; omega⟩
end
end Go.Proofs.Yticmaddcomemhaa
