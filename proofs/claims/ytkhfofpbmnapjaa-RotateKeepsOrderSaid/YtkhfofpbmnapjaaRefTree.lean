/- The reference's List on the dump of an arena. -/
import Derived.Test.YtkhfofpbmnapjaaRefNode
import Derived.Test.YtkhfofpbmnapjaaRefSub
import Derived.Test.YtkhfofpbmnapjaaWf
import Derived.Deep.RegionHeldLaw
import Derived.Deep.RegionHeld3
import Derived.Deep.DeepCutAuto
set_option linter.unusedVariables false
set_option linter.unusedSimpArgs false
namespace Go.Proofs.Ytkhfofpbmnapjaa
open Go.RowKit
/-- append of a row of entries to a row of the call's own -/
theorem wpList_append_rowE {ops : Array Oper} {rest : List Oper} {o : Oper} {a : Act} {w w2 : World} {Q : Exit → Act → World → Prop} {Z B : Nat} {l0 l : List En} {v : Value} (hgd : o.guard = none) (s x : Operand)
    (ho : o.op = .call { callee := .builtin .append, args := #[s, x], argTypes := #[47, 47] })
    (hc : ESt Z w2 l0 v w) (hZ : w2.heap.size = Z) (hs : a.eval s = v) (ad : Option Addr) (c m : Nat) (hm : l.length = m) (hx : a.eval x = .slice ad m c) (hrow : w.ownsRow B 60 2 (.slice ad m c) m (ensV l)) (hl : l0.length + m ≤ 100000000)
    (h : ∀ v' w', ESt Z w2 (l0 ++ l) v' w' → wpList Try.prog ops Q rest (a.put o.dst v') w') : wpList Try.prog ops Q (o :: rest) a w := by
  obtain ⟨i, ji, jz0, jz1, jz2⟩ := info_parts enInfo
  subst hm
  rcases hrow.2 with ⟨hv, hn⟩ | ⟨g, cap, cur, hv, hB, hcc, hn, hcm, hss, htt⟩
  · have hl0 : l = [] := List.eq_nil_of_length_eq_zero (by omega)
    rw [hv] at hx
    refine wpList_append_own_none hgd s x 47 ho Z 60 i 2 Try.underlying47 ji v l0.length (ensV l0) hs hc.row hx ?_
    exact h v w (by rw [hl0, List.append_nil]; exact hc)
  · simp only [Value.slice.injEq] at hv
    obtain ⟨rfl, _, _⟩ := hv
    refine wpList_append_own _ hgd s x 47 ho Z 60 i (.agg #[.int .i64 0, .int .i64 0]) 2 16 Try.underlying47 ji jz0 jz1 jz2 rfl (by decide) v l0.length (ensV l0) hs hc.row ⟨g, 0, none⟩ l.length c (ensV l) hx (ensV_len l) (fun j u hu => ?_) (ensV_ones l) (by unfold maxLen; omega) (by omega) (by have := hc.below.size; omega) ?_
    · have hj : j < l.length * 2 := by have := (List.getElem?_eq_some_iff.1 hu).1; rwa [ensV_len] at this
      rw [add_atE, Nat.zero_add, hrow.cellAt j hj, hu]
    · intro v' w' ho' hg _
      refine h v' w' ?_
      obtain ⟨a', c', hv⟩ := row_val ho'
      refine ⟨⟨a', c', by rw [List.length_append]; exact hv⟩, ?_, hc.below.grown hg (by have := hc.below.size; omega) (row_from hc.row)⟩
      rw [List.length_append, ensV_app]
      exact ho'
theorem below_alT {w0 w : World} (h : Below w0.heap.size w0 w) (o : Obj) : Below w0.heap.size w0 (w.alloc o) := h.trans ((below_newL w o).mono h.size)
def ListSpec (A : Ar) (i : Nat) (t : Tr) : Prop := ∀ (w : World) (a b : Option Addr) (N c m d : Nat), A.σ.cap = N → SlotsAt w a N A.sl → t.size ≤ 1000000 →
  Calls Try.prog 23 #[.agg #[.slice a N c, .slice b m d], .int .u32 (i : Int)] w (MadeEns w (t.ents A.nd))
set_option maxHeartbeats 4000000 in
set_option maxRecDepth 100000 in
theorem listT_node {A : Ar} {i : Nat} {l r : Tr} (hok : A.σ.Ok) (h0 : i ≠ 0) (h1 : A.σ.on i = true) (ihl : ListSpec A (A.nd i).left l) (ihr : ListSpec A (A.nd i).right r) : ListSpec A i (.node i l r) := by
  intro w a b N c m d hN hS hsz
  have hi := hok.on i h1
  have hcap := hok.cap2
  have hi32 : i < 4294967296 := by omega
  have hne0 : ((i : Int) == 0) = false := by simp; omega
  have HI := Lib.hid hi32
  have HOK := Lib.hid hok
  have HON := Lib.hid h1
  have HN := Lib.hid hN
  have hsz2 : (Tr.node i l r).size = l.size + r.size + 1 := rfl
  have HSZ : Hid (l.size ≤ 1000000 ∧ r.size ≤ 1000000) := ⟨by omega, by omega⟩
  have hb1 := below_newL w (Obj.cells #[.slice a N c, .slice b m d] 32)
  have hx1 := heap_alloc_new w (Obj.cells #[.slice a N c, .slice b m d] 32)
  have hS1 := hS.below hb1
  have hg1 : w.heap.size < (w.alloc (Obj.cells #[.slice a N c, .slice b m d] 32)).heap.size := by simp
  have HL := Lib.hid ihl
  have HR := Lib.hid ihr
  clear hN hS hsz hsz2 ihl ihr hok h1 hi hcap hi32
  go_enter Try.func23, Try.ntmps23
  go_upto_region 1 with fail
  generalize w.alloc (Obj.cells #[.slice a N c, .slice b m d] 32) = w1 at hb1 hx1 hS1 hg1 ⊢
  generalize w.heap.size = g at hx1 hg1 ⊢
  have HB1 := Lib.hid hb1
  have HX1 := Lib.hid hx1
  have HS1 := Lib.hid hS1
  have HG1 := Lib.hid hg1
  obtain ⟨q0, q1⟩ := two_cells hx1
  clear hb1 hx1 hS1 hg1
  go_wp2_with fail
  refine (refNode_any (b := b) (m := m) (d := d) (c := c) HS1.out HOK.out HN.out HI.out).mono ?_
  rintro e w2 ⟨rfl, hb2⟩
  have hnz : A.nz i = A.nd i := by unfold Ar.nz; rw [HON.out]; rfl
  rw [hnz]
  have HB2 : Hid (Below w1.heap.size w1 w2) := hb2
  clear hnz q0 q1 hb2
  unfold ndRow
  have hb4 := below_newL w2 (Obj.cells (ndRow (A.nd i)) 40)
  have hn4 := heap_alloc_new w2 (Obj.cells (ndRow (A.nd i)) 40)
  have hg4 : w2.heap.size < (w2.alloc (Obj.cells (ndRow (A.nd i)) 40)).heap.size := by simp
  go_upto_region 4 with fail
  rw [show #[Value.int .i64 (A.nd i).key, .int .i64 (A.nd i).val, .int .u32 ((A.nd i).left : Int), .int .u32 ((A.nd i).right : Int), .int .i64 (A.nd i).size, .int .i64 (A.nd i).sum, .int .i64 (A.nd i).mn, .int .i64 (A.nd i).mx] = ndRow (A.nd i) from rfl]
  have HB4 : Hid (Below w1.heap.size w1 (w2.alloc (Obj.cells (ndRow (A.nd i)) 40))) := HB2.out.trans (hb4.mono HB2.out.size)
  generalize w2.alloc (Obj.cells (ndRow (A.nd i)) 40) = w4 at hn4 hg4 HB4 ⊢
  generalize w2.heap.size = gn at hn4 hg4 ⊢
  have HN4 := Lib.hid hn4
  have HG4 := Lib.hid hg4
  clear hb4 hn4 hg4 HB2
  obtain ⟨kx, hkx⟩ : ∃ x, (A.nd i).key = x := ⟨_, rfl⟩
  obtain ⟨vx, hvx⟩ : ∃ x, (A.nd i).val = x := ⟨_, rfl⟩
  obtain ⟨lx, hlx⟩ : ∃ x, (A.nd i).left = x := ⟨_, rfl⟩
  obtain ⟨rx, hrx⟩ : ∃ x, (A.nd i).right = x := ⟨_, rfl⟩
  have HENT : Hid ((Tr.node i l r).ents A.nd = l.ents A.nd ++ ⟨kx, vx⟩ :: r.ents A.nd) := by show _ = _; rw [Tr.ents_node, hkx, hvx]
  have HC : Hid (∀ wx, Below w4.heap.size w4 wx → (wx.cell? ⟨g, 0, none⟩ = some (.slice a N c) ∧ wx.cell? ⟨g, 1, none⟩ = some (.slice b m d)) ∧ (wx.cell? ⟨gn, 0, none⟩ = some (.int .i64 kx) ∧ wx.cell? ⟨gn, 1, none⟩ = some (.int .i64 vx) ∧ wx.cell? ⟨gn, 2, none⟩ = some (.int .u32 (lx : Int)) ∧ wx.cell? ⟨gn, 3, none⟩ = some (.int .u32 (rx : Int))) ∧ SlotsAt wx a N A.sl ∧ Below w.heap.size w wx) := fun wx hb => by
    have hb' : Below w1.heap.size w1 wx := HB4.out.trans (hb.mono HB4.out.size)
    have hq := (hb'.block g HG1.out).trans HX1.out
    have hn := (hb.block gn HG4.out).trans HN4.out
    subst hkx hvx hlx hrx
    exact ⟨two_cells hq, ⟨by rw [cell_of_row _ _ _ _ _ _ hn]; rfl, by rw [cell_of_row _ _ _ _ _ _ hn]; rfl, by rw [cell_of_row _ _ _ _ _ _ hn]; rfl, by rw [cell_of_row _ _ _ _ _ _ hn]; rfl⟩, HS1.out.below hb', HB1.out.trans (hb'.mono HB1.out.size)⟩
  rw [hlx] at HL
  rw [hrx] at HR
  have HLE : Hid ((l.ents A.nd).length ≤ 1000000 ∧ (r.ents A.nd).length ≤ 1000000) := ⟨by rw [Tr.ents_len]; exact HSZ.out.1, by rw [Tr.ents_len]; exact HSZ.out.2⟩
  clear hkx hvx hlx hrx
  obtain ⟨L1, hL1⟩ : ∃ L, l.ents A.nd = L := ⟨_, rfl⟩
  obtain ⟨L2, hL2⟩ : ∃ L, r.ents A.nd = L := ⟨_, rfl⟩
  rw [hL1, hL2] at HENT HLE
  have HL1 := Lib.hid hL1
  have HL2 := Lib.hid hL2
  clear hL1 hL2
  go_cut [6] (fun s6 wx => ∃ v, s6 = v ∧ ESt w4.heap.size w4 (L1 ++ [⟨kx, vx⟩]) v wx)
  case first =>
    have hS0 : Below w4.heap.size w4 w4.drew := (Below.refl _ _).drew
    obtain ⟨⟨q0, q1⟩, ⟨n0, n1, n2, n3⟩, -, -⟩ := HC.out _ hS0
    have HCALL : Hid (∀ wx, Below w4.heap.size w4 wx → Calls Try.prog 23 #[.agg #[.slice a N c, .slice b m d], .int .u32 (lx : Int)] wx (fun e wL => ∃ xa xc, e = .returned (.slice xa L1.length xc) ∧ ESt w4.heap.size w4 L1 (.slice xa L1.length xc) wL ∧ Below wx.heap.size wx wL)) := fun wx hww => by
      refine (HL.out _ a b N c m d HN.out (HC.out _ hww).2.2.1 HSZ.out.1).mono ?_
      rintro e wL ⟨xa, xc, rfl, hrowL, hbL⟩
      rw [HL1.out] at hrowL ⊢
      exact ⟨xa, xc, rfl, ⟨⟨xa, xc, rfl⟩, row_mono hrowL hww.size, hww.trans (hbL.mono hww.size)⟩, hbL⟩
    have HKEEP : Hid (∀ w', Below w4.heap.size w4 w' → Below w4.heap.size w4 w' ∧ w'.cell? ⟨g, 0, none⟩ = some (.slice a N c) ∧ w'.cell? ⟨g, 1, none⟩ = some (.slice b m d) ∧ w'.cell? ⟨gn, 0, none⟩ = some (.int .i64 kx) ∧ w'.cell? ⟨gn, 1, none⟩ = some (.int .i64 vx) ∧ w'.cell? ⟨gn, 2, none⟩ = some (.int .u32 (lx : Int)) ∧ w'.cell? ⟨gn, 3, none⟩ = some (.int .u32 (rx : Int))) := fun w' hb => by
      have hz := HC.out w' hb
      exact ⟨hb, hz.1.1, hz.1.2, hz.2.1.1, hz.2.1.2.1, hz.2.1.2.2.1, hz.2.1.2.2.2⟩
    go_region_held3 (fun w' => Below w4.heap.size w4 w' ∧ w'.cell? ⟨g, 0, none⟩ = some (.slice a N c) ∧ w'.cell? ⟨g, 1, none⟩ = some (.slice b m d) ∧ w'.cell? ⟨gn, 0, none⟩ = some (.int .i64 kx) ∧ w'.cell? ⟨gn, 1, none⟩ = some (.int .i64 vx) ∧ w'.cell? ⟨gn, 2, none⟩ = some (.int .u32 (lx : Int)) ∧ w'.cell? ⟨gn, 3, none⟩ = some (.int .u32 (rx : Int))) ((refine HKEEP.out _ ?_; repeat (first | with_reducible assumption | with_reducible exact Below.refl _ _ | with_reducible refine Below.drew ?_ | with_reducible refine below_alT ?_ _))) (first
      | (go_at_call 23; refine (HCALL.out _ (by repeat (first | with_reducible assumption | with_reducible exact Below.refl _ _ | with_reducible refine Below.drew ?_ | with_reducible refine below_alT ?_ _))).mono ?_; rintro e wL ⟨xa, xc, rfl, hEL, hbL⟩; have hSL := hEL.below; obtain ⟨⟨q0, q1⟩, ⟨n0, n1, n2, n3⟩, -, -⟩ := HC.out _ hSL)
      | (refine step_append_en rfl (.tmp 15) (.tmp 21) rfl (hEL.from (below_newL _ _) rfl) rfl rfl ⟨kx, vx⟩ _ rfl (cell_newE _ _ _) (Nat.le_trans HLE.out.1 (by decide)) ?_; intro v5 w5 hc5 hg5; have hS5 := hc5.below; obtain ⟨⟨q0, q1⟩, ⟨n0, n1, n2, n3⟩, -, -⟩ := HC.out _ hS5)
      | (refine step_append_en rfl (.tmp 15) (.tmp 21) rfl hEL rfl rfl ⟨kx, vx⟩ _ rfl (fun j u hu => (hbL.cell (by simp [Addr.add]; split <;> exact Nat.lt_succ_self _)).trans (cell_newE _ ⟨kx, vx⟩ _ j u hu)) (Nat.le_trans HLE.out.1 (by decide)) ?_; intro v5 w5 hc5 hg5; have hS5 := hc5.below; obtain ⟨⟨q0, q1⟩, ⟨n0, n1, n2, n3⟩, -, -⟩ := HC.out _ hS5))
    all_goals (go_wp2_with fail; go_meet; exact ⟨_, rfl, hc5⟩)
  case' rest =>
    rename World => w5
    obtain ⟨v5, h6, hc5⟩ := hcut
    subst h6
    obtain ⟨xa, xc, hv5⟩ := hc5.val
    have HE5 := Lib.hid hc5
    obtain ⟨⟨q0, q1⟩, ⟨n0, n1, n2, n3⟩, hsl5, -⟩ := HC.out w5 hc5.below
    have HSL5 := Lib.hid hsl5
    have HLB : Hid ((L1 ++ [(⟨kx, vx⟩ : En)]).length + L2.length ≤ 100000000) := by
      have h := HLE.out
      show _ ≤ _
      rw [List.length_append]
      simp only [List.length_cons, List.length_nil]
      omega
    obtain ⟨n1', hn1⟩ : ∃ k, (L1 ++ [(⟨kx, vx⟩ : En)]).length = k := ⟨_, rfl⟩
    obtain ⟨n2', hn2⟩ : ∃ k, L2.length = k := ⟨_, rfl⟩
    rw [hn1] at hv5
    have HN2 := Lib.hid hn2
    rw [hv5] at HE5
    subst hv5
    clear hc5 hsl5 hn1 hn2
    go_wp2_with fail
    refine (HR.out w5 a b N c m d HN.out HSL5.out HSZ.out.2).mono ?_
    rintro e w6 ⟨ya, yc, rfl, hrow6, hb6⟩
    rw [HL2.out, HN2.out] at hrow6 ⊢
    have HE6 := Lib.hid (HE5.out.from hb6 rfl)
    have HRW6 := Lib.hid hrow6
    clear hrow6 hb6 q0 q1 n0 n1 n2 n3
    go_wp2_with (at_builtin; refine wpList_append_rowE rfl (.tmp 23) (.tmp 27) rfl HE6.out rfl rfl ya yc n2' HN2.out rfl HRW6.out (by have := HLB.out; have := HN2.out; omega) ?_; intro v7 w7 hc7)
    go_ret
    obtain ⟨za, zc, rfl⟩ := hc7.val
    have hfin : L1 ++ [(⟨kx, vx⟩ : En)] ++ L2 = (Tr.node i l r).ents A.nd := by rw [HENT.out]; simp
    have hbw := (HC.out w7 hc7.below).2.2.2
    rw [← hfin]
    exact ⟨za, zc, rfl, row_mono hc7.row ((HC.out w4 (Below.refl _ _)).2.2.2).size, hbw⟩
set_option maxHeartbeats 4000000 in
set_option maxRecDepth 100000 in
theorem listT_nil (A : Ar) : ListSpec A 0 .nil := by
  intro w a b N c m d hN hS hsz
  have hb1 := below_newL w (Obj.cells #[.slice a N c, .slice b m d] 32)
  have HB1 := Lib.hid hb1
  clear hb1
  go_enter Try.func23, Try.ntmps23
  go_wp2_with fail
  go_ret
  exact ⟨none, 0, rfl, World.ownsRow_nil _ _ _ _, HB1.out⟩
/-- List of the reference reads a subtree in order. -/
theorem listT_any {A : Ar} {i : Nat} {t : Tr} (hok : A.σ.Ok) (hs : Sub A i t) : ListSpec A i t := by
  induction hs with
  | nil => exact listT_nil A
  | node i l r h0 h1 _ _ ihl ihr => exact listT_node hok h0 h1 ihl ihr
end Go.Proofs.Ytkhfofpbmnapjaa
