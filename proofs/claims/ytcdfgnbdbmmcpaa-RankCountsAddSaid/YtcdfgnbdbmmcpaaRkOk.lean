/- The program's ranks keep their contracts. -/
import Derived.Test.YtcdfgnbdbmmcpaaRkOk1
set_option linter.unusedVariables false
set_option linter.unusedSimpArgs false
namespace Go.Proofs.Ytcdfgnbdbmmcpaa
open Go.RowKit
set_option maxRecDepth 100000 in
theorem rankP_any (I : AImpl) {p : Value} {A : Ar} {rd : Int} {F : Nat → Prop} {i : Nat} {t : Tr} {l : List En} (k : Int) (w : World) (hI : I.Is w p A rd F) (hT : TreeAt A i t l) (h0 : 0 ≤ rd) (h1 : rd ≤ 1099511627776) (hk : i64R k) :
    Calls Try.prog 12 #[p, .int .u32 (i : Int), .int .i64 k] w (ReadsTo I p A rd F (mostJ l.length) (.int .i64 (rankE l k : Int)) w) := by
  obtain ⟨pa, rfl⟩ := I.ptr hI
  have hc := countB_any I k false w hI hT h0 (by omega)
  rw [show k + (if false = true then 1 else 0) = k from by simp] at hc
  have HC := Lib.hid hc
  generalize rankE l k = R at hc HC ⊢
  clear hI hT h0 h1 hk hc
  go_enter Try.func12, Try.ntmps12
  go_wp2_with fail
  refine HC.out.mono ?_
  rintro e w1 ⟨F', rd', rfl, h2, h3, h4, h5⟩
  have HE : Hid (ReadsTo I (.pointer (some pa)) A rd F (mostJ l.length) (.int .i64 (R : Int)) w (.returned (.int .i64 (R : Int))) w1) := ⟨F', rd', rfl, h2, h3, h4, h5⟩
  clear h2 h3 h4 h5
  go_wp2_with fail
  go_ret
  exact HE.out
theorem cnt_ranks (l : List En) {lo hi : Int} (h : lo ≤ hi) : (rankE l (hi + 1) : Int) - (rankE l lo : Int) = (cntE l lo hi : Int) := by
  have := cnt_rank l h
  omega
set_option maxRecDepth 100000 in
theorem countP_any (I : AImpl) {p : Value} {A : Ar} {rd : Int} {F : Nat → Prop} {i : Nat} {t : Tr} {l : List En} (lo hi : Int) (w : World) (hI : I.Is w p A rd F) (hT : TreeAt A i t l) (h0 : 0 ≤ rd) (h1 : rd ≤ 1099511627776) (hlo : i64R lo) (hhi : i64R hi) :
    Calls Try.prog 17 #[p, .int .u32 (i : Int), .int .i64 lo, .int .i64 hi] w (ReadsTo I p A rd F (2 * mostJ l.length) (.int .i64 (cntE l lo hi : Int)) w) := by
  obtain ⟨pa, rfl⟩ := I.ptr hI
  have hM := mostJ_le (n := l.length) (by have := hT.len; omega)
  rcases Int.lt_or_le hi lo with hlt | hlt
  · have q1 : decide (lo > hi) = true := decide_eq_true hlt
    have q2 : decide (hi < lo) = true := decide_eq_true hlt
    have HE : Hid (∀ w', Below w.heap.size w w' → ReadsTo I (.pointer (some pa)) A rd F (2 * mostJ l.length) (.int .i64 (cntE l lo hi : Int)) w (.returned (.int .i64 0)) w') := fun w' hb => by
      rw [cnt_none l hlt]
      exact ((In.start hI).calm hb).ends (Int.le_refl _) (by omega)
    clear hI hT h0 h1 hlo hhi hM
    go_enter Try.func17, Try.ntmps17
    go_wp2_with fail
    go_ret
    exact HE.out w (Below.refl _ _)
  · have q1 : decide (lo > hi) = false := decide_eq_false (by omega)
    have q2 : decide (hi < lo) = false := decide_eq_false (by omega)
    have HC1 : Hid (∀ wx F1, I.Is wx (.pointer (some pa)) A rd F1 → Calls Try.prog 30 #[.pointer (some pa), .int .u32 (i : Int), .int .i64 hi, .bool true] wx (ReadsTo I (.pointer (some pa)) A rd F1 (mostJ l.length) (.int .i64 (rankE l (hi + 1) : Int)) wx)) := fun wx F1 hI1 => countB_any I hi true wx hI1 hT h0 (by omega)
    have HC2 : Hid (∀ rd1 wx F1, rd ≤ rd1 → rd1 ≤ rd + mostJ l.length → I.Is wx (.pointer (some pa)) A rd1 F1 → Calls Try.prog 30 #[.pointer (some pa), .int .u32 (i : Int), .int .i64 lo, .bool false] wx (ReadsTo I (.pointer (some pa)) A rd1 F1 (mostJ l.length) (.int .i64 (rankE l lo : Int)) wx)) := fun rd1 wx F1 h2 h3 hI1 => by
      have := countB_any I lo false wx hI1 hT (by omega) (by omega)
      rwa [show lo + (if false = true then 1 else 0) = lo from by simp] at this
    have hv := cnt_ranks l hlt
    have h8 := rankE_le l (hi + 1)
    have h9 := rankE_le l lo
    have hL := hT.len
    generalize rankE l (hi + 1) = R1 at HC1 hv h8
    generalize rankE l lo = R2 at HC2 hv h9
    generalize cntE l lo hi = V at hv ⊢
    have hwr : IntKind.i64.wrap ((R1 : Int) - (R2 : Int)) = (V : Int) := by rw [IntKind.wrap_i64]; omega
    have HIN := Lib.hid (In.start hI)
    generalize hm : mostJ l.length = M at HC1 HC2 hM ⊢
    clear hI hT h0 h1 hlo hhi hv h8 h9 hL hlt hm hM
    go_enter Try.func17, Try.ntmps17
    go_wp2_with fail
    refine (HIN.out.call fun F1 hI1 => HC1.out w F1 hI1).mono ?_
    rintro e w1 ⟨rfl, rd1, hin1, -, h10, h11⟩
    have HIN1 := Lib.hid hin1
    have HR1 : Hid (rd ≤ rd1 ∧ rd1 ≤ rd + M) := ⟨h10, h11⟩
    clear hin1 h10 h11 HIN HC1
    go_wp2_with fail
    refine (HIN1.out.call fun F1 hI1 => HC2.out rd1 w1 F1 HR1.out.1 HR1.out.2 hI1).mono ?_
    rintro e w2 ⟨rfl, rd2, hin2, -, h20, h21⟩
    have HE : Hid (ReadsTo I (.pointer (some pa)) A rd F (2 * M) (.int .i64 (V : Int)) w (.returned (.int .i64 (V : Int))) w2) := hin2.ends (by have := HR1.out; omega) (by have := HR1.out; omega)
    clear hin2 h20 h21 HIN1 HC2
    go_wp2_with fail
    go_ret
    exact HE.out
/-- the way of Select: the result's box is r -/
def WayS (I : AImpl) (w : World) (F : Nat → Prop) (p : Value) (A : Ar) (rd0 : Int) (R : Option En) (top : Int) (r U : Nat) (jv x c : Value) (wr : World) : Prop :=
  ∃ (i n : Nat) (j : Int) (u : Tr) (rd : Int), jv = .int .i64 j ∧ x = .int .u32 (i : Int) ∧ c = .int .i64 (n : Int) ∧ i64R j ∧ Sub A i u ∧ selE (u.ents A.nd) j = R ∧ rd0 ≤ rd ∧ rd + 2 * (u.ht : Int) ≤ top ∧ n + u.size ≤ U ∧ In I w F p A rd (fun k => k = r) wr ∧ wr.heap[r]? = some (.cells #[.int .i64 0, .int .i64 0] 41 (0, 0))
set_option maxHeartbeats 4000000 in
set_option maxRecDepth 100000 in
theorem selectP_any (I : AImpl) {p : Value} {A : Ar} {rd : Int} {F : Nat → Prop} {i : Nat} {t : Tr} {l : List En} (j : Int) (w : World) (hI : I.Is w p A rd F) (hT : TreeAt A i t l) (h0 : 0 ≤ rd) (h1 : rd ≤ 1099511628776) (hj : i64R j) :
    Calls Try.prog 15 #[p, .int .u32 (i : Int), .int .i64 j] w (ReadsTo I p A rd F (2 * (t.ht : Int)) (enR (selE l j)) w) := by
  obtain ⟨pa, rfl⟩ := I.ptr hI
  have hin : (Try.prog.info? 41).map (·.size) = some 2 := by kernel_rfl
  have HINF := Lib.hid hin
  have HTU : Hid _ := Lib.hid Try.underlying41
  have hb := hT.bound
  obtain ⟨R, hR⟩ : ∃ R, selE l j = R := ⟨_, rfl⟩
  rw [hR]
  obtain ⟨held, hv⟩ := hT.inv
  have hcap := hv.ok.cap2
  have hhd := hT.held
  obtain ⟨U, hU⟩ : ∃ U, U + A.σ.free.length = A.σ.cap := ⟨A.σ.cap - A.σ.free.length, by omega⟩
  have HLP : Hid (∀ wx F1, I.Is wx (.pointer (some pa)) A rd F1 → Calls Try.prog 31 #[.pointer (some pa)] wx (Calm wx (.int .i64 (U : Int)))) := fun wx F1 h => longestR_any I wx h hU
  have HU : Hid (U ≤ 65536 ∧ t.size ≤ U) := ⟨by omega, by omega⟩
  have HAG := Lib.hid hT.agg
  have HOK := Lib.hid hv.ok
  have HRD : Hid (0 ≤ rd ∧ rd ≤ 1099511628776 ∧ t.ht ≤ 65536) := ⟨h0, h1, hb.2⟩
  have HSB := Lib.hid hT.sub
  have HSE : Hid (selE (t.ents A.nd) j = R) := by show _ = _; rw [hT.ents, hR]
  have HJ := Lib.hid hj
  have hin1 := (In.start hI).alloc (.cells #[.int .i64 0, .int .i64 0] 41)
  have hr1 := heap_alloc_new w (.cells #[.int .i64 0, .int .i64 0] 41)
  clear hI hT h0 h1 hb hR hv hin hcap hhd hU hj
  go_enter Try.func15, Try.ntmps15
  go_upto_region 1 with fail
  generalize w.alloc (Obj.cells #[.int .i64 0, .int .i64 0] 41) = w1 at hin1 hr1 ⊢
  have hin2 : In I w F (.pointer (some pa)) A rd (fun k => k = w.heap.size) w1 := hin1.less fun k hk => .inr hk
  obtain ⟨r, hr⟩ : ∃ r, w.heap.size = r := ⟨_, rfl⟩
  rw [hr] at hin2 hr1 ⊢
  have HIN := Lib.hid hin2
  have HBX := Lib.hid hr1
  have HOLD : Hid (w.heap.size ≤ r) := by show _ ≤ _; omega
  clear hin1 hin2 hr1 hr
  go_wp2_with fail
  obtain ⟨F1, f1, -, -⟩ := HIN.out.mr.has
  refine (HLP.out w1 F1 f1).mono ?_
  rintro e w2 ⟨rfl, hb2⟩
  have HW1 : Hid (WayS I w F (.pointer (some pa)) A rd R (rd + 2 * (t.ht : Int)) r U (.int .i64 j) (.int .u32 (i : Int)) (.int .i64 0) w2) := ⟨i, 0, j, t, rd, rfl, rfl, rfl, HJ.out, HSB.out, HSE.out, Int.le_refl _, Int.le_refl _, by have := HU.out; omega, HIN.out.calm hb2, (HIN.out.keeps hb2 r rfl).trans HBX.out⟩
  clear f1 hb2 HLP HIN HBX HSB HSE HJ
  go_wp2_with fail
  go_loopw [2, 8, 15] (fun jv x c wr => WayS I w F (.pointer (some pa)) A rd R (rd + 2 * (t.ht : Int)) r U jv x c wr) (fun _ _ c _ => U - (intOf c).toNat)
  case atStart => exact HW1.out
  case round =>
    clear HW1
    obtain ⟨i, n, j, u, rd1, rfl, rfl, rfl, hj, hu, hg, hr0, hr1, hn, hin, hbx⟩ := hrel
    have hfin : ∀ wx rd', In I w F (.pointer (some pa)) A rd' (fun k => k = r) wx → wx.heap[r]? = some (.cells #[.int .i64 0, .int .i64 0] 41 (0, 0)) → rd ≤ rd' → rd' ≤ rd + 2 * (t.ht : Int) → ∀ X Y Z, enR R = .tuple #[.agg #[.int .i64 X, .int .i64 Y], .bool Z] →
        ReadsTo I (.pointer (some pa)) A rd F (2 * (t.ht : Int)) (enR R) w (.returned (.tuple #[.agg #[.int .i64 X, .int .i64 Y], .bool Z])) ((wx.setCell ⟨r, 0, none⟩ (.int .i64 X)).setCell ⟨r, 1, none⟩ (.int .i64 Y)) ∧
        ((wx.setCell ⟨r, 0, none⟩ (.int .i64 X)).setCell ⟨r, 1, none⟩ (.int .i64 Y)).heap[r]? = some (.cells #[.int .i64 X, .int .i64 Y] 41 (0, 0)) := fun wx rd' h1 h2 h3 h4 X Y Z h5 =>
      ⟨by rw [← h5]; exact (h1.set2 (g := r) rfl HOLD.out (.int .i64 X) (.int .i64 Y)).ends h3 h4, by rw [heap_setCell_same _ _ 1 _ _ _ (heap_setCell_same _ _ 0 _ _ _ h2)]; rfl⟩
    have HFIN := Lib.hid hfin
    clear hfin
    rcases Nat.lt_or_ge n U with hnu | hnu
    rotate_left
    · have hnu2 : decide ((n : Int) < (U : Int)) = false := decide_eq_false (by omega)
      have hu0 : u = .nil := by
        cases u with
        | nil => rfl
        | node i l r =>
          have : (Tr.node i l r).size = l.size + r.size + 1 := rfl
          omega
      subst hu0
      have hRn : R = none := by rw [← hg]; unfold selE; split <;> simp [Tr.ents, Tr.idx]
      have HE := Lib.hid (HFIN.out wr rd1 hin hbx hr0 (by have := HRD.out; omega) 0 0 false (by rw [hRn]; rfl))
      have hUn : ¬ n < U := Nat.not_lt.2 hnu
      obtain ⟨r0, r1⟩ := two_ofE hbx
      have f0 := frozen_of_row _ _ 0 _ _ hbx
      have f1 := frozen_of_row _ _ 1 _ _ hbx
      clear hu hg hr0 hr1 hin hn hnu hbx hj HFIN hRn
      go_wp2_with fail
      refine bodyPost_ret (results_row_tmp rfl _ _ r 41 #[.int .i64 0, .int .i64 0] (0, 0) _ rfl HE.out.2 HTU.out rfl HINF.out) rfl ?_
      exact HE.out.1
    have hnu2 : decide ((n : Int) < (U : Int)) = true := decide_eq_true (by omega)
    have hnu3 : (n : Int) < (U : Int) := by omega
    have hU4 : (U : Int) ≤ 65536 := by have := HU.out.1; omega
    have hn0 : (0 : Int) ≤ (n : Int) := by omega
    cases u with
    | nil =>
      obtain rfl : i = 0 := by
        cases hu with
        | nil => rfl
      have hRn : R = none := by rw [← hg]; unfold selE; split <;> simp [Tr.ents, Tr.idx]
      have HR1 : Hid (rd ≤ rd1 ∧ rd1 ≤ rd + 2 * (t.ht : Int)) := ⟨hr0, by have : (Tr.nil.ht : Nat) = 0 := rfl; omega⟩
      have HIN := Lib.hid hin
      have HBX := Lib.hid hbx
      clear hu hg hr0 hr1 hin hn hbx hj
      go_wp2_with fail
      refine (HIN.out.off (by have := HR1.out; have := HRD.out; omega) (by have := HR1.out; have := HRD.out; omega)).mono ?_
      rintro e w1 ⟨rfl, hin1, hk1⟩
      have hb1 := below_new7 w1 (Obj.cells (ndRow Nd.zero) 65)
      have hin2 := hin1.calm hb1
      have hbx2 := (hin1.keeps hb1 r rfl).trans ((hk1 r rfl).trans HBX.out)
      clear hin1 HIN hb1 hk1 HBX
      unfold ndRow
      go_upto_region 5 with fail
      rw [show #[Value.int .i64 Nd.zero.key, .int .i64 Nd.zero.val, .int .u32 (Nd.zero.left : Int), .int .u32 (Nd.zero.right : Int), .int .i64 Nd.zero.size, .int .i64 Nd.zero.sum, .int .i64 Nd.zero.mn, .int .i64 Nd.zero.mx] = ndRow Nd.zero from rfl]
      generalize w1.alloc (Obj.cells (ndRow Nd.zero) 65) = w2 at hin2 hbx2 ⊢
      have HE := Lib.hid (HFIN.out w2 rd1 hin2 hbx2 HR1.out.1 HR1.out.2 0 0 false (by rw [hRn]; rfl))
      obtain ⟨r0, r1⟩ := two_ofE hbx2
      have f0 := frozen_of_row _ _ 0 _ _ hbx2
      have f1 := frozen_of_row _ _ 1 _ _ hbx2
      generalize w1.heap.size = g
      clear hin2 hbx2 HFIN hRn
      go_wp2_with fail
      refine bodyPost_ret (results_row_tmp rfl _ _ r 41 #[.int .i64 0, .int .i64 0] (0, 0) _ rfl HE.out.2 HTU.out rfl HINF.out) rfl ?_
      exact HE.out.1
    | node i2 l2 r2 =>
      obtain ⟨rfl, h0, hon, hsl, hsr⟩ : i2 = i ∧ i ≠ 0 ∧ A.σ.on i = true ∧ Sub A (A.nd i).left l2 ∧ Sub A (A.nd i).right r2 := by
        cases hu with
        | node _ _ _ h1 h2 h3 h4 => exact ⟨rfl, h1, h2, h3, h4⟩
      have hi4 : i2 < 4294967296 := by have := HOK.out.on i2 hon; have := HOK.out.cap2; omega
      have hl4 : (A.nd i2).left < 4294967296 := by rcases hsl.idx with h9 | h9; omega; have := HOK.out.on _ h9; have := HOK.out.cap2; omega
      have hht : (Tr.node i2 l2 r2).ht = 1 + max l2.ht r2.ht := rfl
      rw [show (Tr.node i2 l2 r2).size = l2.size + r2.size + 1 from rfl] at hn
      rw [Tr.ents_node, sel_node, Tr.ents_len] at hg
      have HSL := Lib.hid hsl
      have HSR := Lib.hid hsr
      have HON := Lib.hid hon
      have HI4 : Hid (i2 < 4294967296 ∧ (A.nd i2).left < 4294967296) := ⟨hi4, hl4⟩
      have HNN : Hid (n + 1 + l2.size ≤ U ∧ n + 1 + r2.size ≤ U ∧ l2.size ≤ 65536) := ⟨by omega, by omega, by have := HU.out; omega⟩
      have HR1 : Hid (rd ≤ rd1 ∧ rd1 + 2 + 2 * (l2.ht : Int) ≤ rd + 2 * (t.ht : Int) ∧ rd1 + 2 + 2 * (r2.ht : Int) ≤ rd + 2 * (t.ht : Int)) := ⟨hr0, by omega, by omega⟩
      have HIN := Lib.hid hin
      have HBX := Lib.hid hbx
      have HG := Lib.hid hg
      have HJ := Lib.hid hj
      clear hu hg hr0 hr1 hin h0 hon hsl hsr hi4 hl4 hht hn hbx hj
      go_wp2_with fail
      refine (HIN.out.node (by have := HR1.out; have := HRD.out; omega) (by have := HR1.out; have := HRD.out; omega) HI4.out.1 HON.out).mono ?_
      rintro e w1 ⟨rfl, hin1, hk1⟩
      have hbx1 := (hk1 r rfl).trans HBX.out
      have hb1 := below_new7 w1 (Obj.cells (ndRow (A.nd i2)) 65)
      have hbx2 := (hin1.keeps hb1 r rfl).trans hbx1
      have hin2 := hin1.alloc (Obj.cells (ndRow (A.nd i2)) 65)
      have hbn := heap_alloc_new w1 (Obj.cells (ndRow (A.nd i2)) 65)
      have hgr : w1.heap.size ≠ r := fun e => by have := hin1.mr.lt (.inr rfl : OldG w F r ∨ r = r); omega
      clear hin1 HIN hb1 hk1 hbx1 HBX
      unfold ndRow
      go_upto_region 5 with fail
      rw [show #[Value.int .i64 (A.nd i2).key, .int .i64 (A.nd i2).val, .int .u32 ((A.nd i2).left : Int), .int .u32 ((A.nd i2).right : Int), .int .i64 (A.nd i2).size, .int .i64 (A.nd i2).sum, .int .i64 (A.nd i2).mn, .int .i64 (A.nd i2).mx] = ndRow (A.nd i2) from rfl]
      generalize w1.alloc (Obj.cells (ndRow (A.nd i2)) 65) = w2 at hin2 hbx2 hbn ⊢
      generalize w1.heap.size = g at hin2 hbn hgr ⊢
      have x2 : w2.cell? ⟨g, 2, none⟩ = some (.int .u32 ((A.nd i2).left : Int)) := by rw [cell_of_row _ _ _ _ _ _ hbn]; rfl
      have HX := Lib.hid hbn
      have HBX := Lib.hid hbx2
      have HIN2 := Lib.hid hin2
      have HGR := Lib.hid hgr
      clear hin2 hbn hbx2 hgr
      go_wp2_with fail
      refine (HIN2.out.sizeOf HAG.out (by have := HR1.out; have := HRD.out; omega) (by have := HR1.out; have := HRD.out; omega) HSL.out HI4.out.2).mono ?_
      rintro e w3 ⟨rfl, rd3, hin3, hk3, h31, h32⟩
      have hx3 := (hk3 g (.inr rfl)).trans HX.out
      have hbx3 := (hk3 r (.inl rfl)).trans HBX.out
      clear x2 HX HBX hk3 HIN2
      have x0 : w3.cell? ⟨g, 0, none⟩ = some (.int .i64 (A.nd i2).key) := by rw [cell_of_row _ _ _ _ _ _ hx3]; rfl
      have x1 : w3.cell? ⟨g, 1, none⟩ = some (.int .i64 (A.nd i2).val) := by rw [cell_of_row _ _ _ _ _ _ hx3]; rfl
      have x2 : w3.cell? ⟨g, 2, none⟩ = some (.int .u32 ((A.nd i2).left : Int)) := by rw [cell_of_row _ _ _ _ _ _ hx3]; rfl
      have x3 : w3.cell? ⟨g, 3, none⟩ = some (.int .u32 ((A.nd i2).right : Int)) := by rw [cell_of_row _ _ _ _ _ _ hx3]; rfl
      have hin4 : In I w F (.pointer (some pa)) A rd3 (fun k => k = r) w3 := hin3.less fun k hk => .inl hk
      have hg := HG.out
      have hj := HJ.out
      obtain ⟨S, hS⟩ : ∃ S : Int, (l2.size : Int) = S := ⟨_, rfl⟩
      have hS0 : 0 ≤ S ∧ S ≤ 65536 := by have := HNN.out; omega
      rw [hS] at hg ⊢
      rcases Int.lt_trichotomy j S with h | h | h
      · have q1 : decide (j < S) = true := decide_eq_true h
        rw [if_pos h] at hg
        have HE : Hid (WayS I w F (.pointer (some pa)) A rd R (rd + 2 * (t.ht : Int)) r U (.int .i64 j) (.int .u32 ((A.nd i2).left : Int)) (.int .i64 ((n + 1 : Nat) : Int)) w3) :=
          ⟨_, n + 1, j, l2, rd3, rfl, rfl, rfl, hj, HSL.out, hg, by have := HR1.out; omega, by have := HR1.out; omega, HNN.out.1, hin4, hbx3⟩
        clear h hg hj hS hS0 hin3 hin4 h31 h32 hx3 hbx3 HFIN HG HJ
        go_wp2_with fail
        exact ⟨by rw [show ((n : Int) + 1) = ((n + 1 : Nat) : Int) by omega]; exact HE.out, by simp [intOf]; omega⟩
      · have q1 : decide (j < S) = false := decide_eq_false (by omega)
        have q2 : (j == S) = true := by simp [h]
        rw [if_neg (by omega), if_pos h] at hg
        have HE := Lib.hid (HFIN.out w3 rd3 hin4 hbx3 (by have := HR1.out; omega) (by have := HR1.out; omega) (A.nd i2).key (A.nd i2).val true (by rw [← hg]; rfl))
        obtain ⟨r0, r1⟩ := two_ofE hbx3
        have f0 := frozen_of_row _ _ 0 _ _ hbx3
        have f1 := frozen_of_row _ _ 1 _ _ hbx3
        have hgr := HGR.out
        have hgr2 : r ≠ g := fun e => hgr e.symm
        clear h hg hj hS hS0 hin3 hin4 h31 h32 hx3 hbx3 HFIN HG HJ
        go_wp2_with fail
        refine bodyPost_ret (results_row_tmp rfl _ _ r 41 #[.int .i64 (A.nd i2).key, .int .i64 (A.nd i2).val] (0, 0) _ rfl HE.out.2 HTU.out rfl HINF.out) rfl ?_
        exact HE.out.1
      · have q1 : decide (j < S) = false := decide_eq_false (by omega)
        have q2 : (j == S) = false := by simp; omega
        rw [if_neg (by omega), if_neg (by omega)] at hg
        have hw1 : IntKind.i64.wrap (S + 1) = S + 1 := by rw [IntKind.wrap_i64]; omega
        have hw2 : IntKind.i64.wrap (j - (S + 1)) = j - (S + 1) := by rw [IntKind.wrap_i64]; have := hj.2; omega
        have HE : Hid (WayS I w F (.pointer (some pa)) A rd R (rd + 2 * (t.ht : Int)) r U (.int .i64 (j - (S + 1))) (.int .u32 ((A.nd i2).right : Int)) (.int .i64 ((n + 1 : Nat) : Int)) w3) :=
          ⟨_, n + 1, j - (S + 1), r2, rd3, rfl, rfl, rfl, ⟨by omega, by have := hj.2; omega⟩, HSR.out, hg, by have := HR1.out; omega, by have := HR1.out; omega, HNN.out.2.1, hin4, hbx3⟩
        clear h hg hj hS hS0 hin3 hin4 h31 h32 hx3 hbx3 HFIN HG HJ
        go_wp2_with fail
        exact ⟨by rw [show ((n : Int) + 1) = ((n + 1 : Nat) : Int) by omega]; exact HE.out, by simp [intOf]; omega⟩
theorem mid_sel {l : List En} : selE l (((l.length : Int) - 1).tdiv 2) = midE l := by
  unfold midE
  rcases Nat.eq_zero_or_pos l.length with h | h
  · rw [List.length_eq_zero_iff] at h
    subst h
    rfl
  · rw [Int.tdiv_eq_ediv_of_nonneg (by omega)]
    congr 1
    omega
set_option maxHeartbeats 2000000 in
set_option maxRecDepth 100000 in
theorem medianP_any (I : AImpl) {p : Value} {A : Ar} {rd : Int} {F : Nat → Prop} {i : Nat} {t : Tr} {l : List En} (w : World) (hI : I.Is w p A rd F) (hT : TreeAt A i t l) (h0 : 0 ≤ rd) (h1 : rd ≤ 1099511627776) :
    Calls Try.prog 20 #[p, .int .u32 (i : Int)] w (ReadsTo I p A rd F (mostJ l.length) (enR (midE l)) w) := by
  obtain ⟨pa, rfl⟩ := I.ptr hI
  have hin : (Try.prog.info? 41).map (·.size) = some 2 := by kernel_rfl
  have HINF := Lib.hid hin
  have HU : Hid _ := Lib.hid Try.underlying41
  have hLL := hT.len
  have hM2 : 2 * (t.ht : Int) + 1 ≤ mostJ l.length := by unfold mostJ; have h8 := hT.ht (by omega); omega
  have hi := hT.idx
  have hms := mid_sel (l := l)
  have hsz := hT.size
  rw [← hsz] at hms
  have hsl : t.size ≤ 65536 := by omega
  obtain ⟨S, hS⟩ : ∃ S : Int, (t.size : Int) = S := ⟨_, rfl⟩
  rw [hS] at hms
  have hS1 : 0 ≤ S ∧ S ≤ 65536 := by omega
  obtain ⟨T, hTT⟩ : ∃ T, (S - 1).tdiv 2 = T := ⟨_, rfl⟩
  rw [hTT] at hms
  have hTb : i64R T := by
    rw [← hTT]
    rcases Int.lt_or_le S 1 with h | h
    · obtain rfl : S = 0 := by omega
      exact ⟨by decide, by decide⟩
    · rw [Int.tdiv_eq_ediv_of_nonneg (by omega)]; exact ⟨by omega, by omega⟩
  have hw1 : IntKind.i64.wrap (S - 1) = S - 1 := by rw [IntKind.wrap_i64]; omega
  have hw2 : IntKind.i64.wrap T = T := by rw [IntKind.wrap_i64]; have := hTb.1; have := hTb.2; omega
  have HSZ : Hid (∀ wx X, In I w F (.pointer (some pa)) A rd X wx → Calls Try.prog 33 #[.pointer (some pa), .int .u32 (i : Int)] wx fun e w' => e = .returned (.int .i64 S) ∧ ∃ rd', In I w F (.pointer (some pa)) A rd' X w' ∧ Keeps X wx w' ∧ rd ≤ rd' ∧ rd' ≤ rd + 1) := fun wx X h => by
    rw [← hS]; exact h.sizeOf hT.agg h0 (by omega) hT.sub hi
  have HC : Hid (∀ (rd1 : Int) (wx : World) (F1 : Nat → Prop), rd ≤ rd1 → rd1 ≤ rd + 1 → I.Is wx (.pointer (some pa)) A rd1 F1 → Calls Try.prog 15 #[.pointer (some pa), .int .u32 (i : Int), .int .i64 T] wx (ReadsTo I (.pointer (some pa)) A rd1 F1 (2 * (t.ht : Int)) (enR (midE l)) wx)) := fun rd1 wx F1 h2 h3 hI1 => hms ▸ selectP_any I T wx hI1 hT (by omega) (by omega) hTb
  have hin1 := (In.start hI).alloc (.cells #[.int .i64 0, .int .i64 0] 41)
  have hr1 := heap_alloc_new w (.cells #[.int .i64 0, .int .i64 0] 41)
  generalize mostJ l.length = M at hM2 ⊢
  have HM := Lib.hid hM2
  clear hI hT h0 h1 hi hin hLL hM2 hms hsz hsl hS hS1 hTb
  go_enter Try.func20, Try.ntmps20
  go_upto_region 1 with fail
  generalize w.alloc (Obj.cells #[.int .i64 0, .int .i64 0] 41) = w1 at hin1 hr1 ⊢
  have HIN1 := Lib.hid hin1
  have HR1 := Lib.hid hr1
  clear hin1 hr1
  go_wp2_with fail
  refine (HSZ.out w1 _ HIN1.out).mono ?_
  rintro e w1b ⟨rfl, rd1, hin1, hk1, h10, h11⟩
  have HIN2 := Lib.hid hin1
  have HR2 := Lib.hid ((hk1 w.heap.size (.inr rfl)).trans HR1.out)
  have HRD : Hid (rd ≤ rd1 ∧ rd1 ≤ rd + 1) := ⟨h10, h11⟩
  clear hin1 hk1 h10 h11 HIN1 HR1 HSZ
  go_wp2_with fail
  refine (HIN2.out.call fun F1 hI1 => HC.out rd1 w1b F1 HRD.out.1 HRD.out.2 hI1).mono ?_
  rintro e w2 ⟨rfl, rd2, hin2, hk2, h20, h21⟩
  have hr2 := (hk2 w.heap.size (.inr rfl)).trans HR2.out
  obtain ⟨r0, r1⟩ := two_ofE hr2
  have f0 := frozen_of_row _ _ 0 _ _ hr2
  have f1 := frozen_of_row _ _ 1 _ _ hr2
  obtain ⟨O, hO⟩ : ∃ O, midE l = O := ⟨_, rfl⟩
  rw [hO]
  have HO := Lib.hid hO
  have HE : Hid (∀ x y, ReadsTo I (.pointer (some pa)) A rd F M (enR O) w (.returned (enR O)) ((w2.setCell ⟨w.heap.size, 0, none⟩ (.int .i64 x)).setCell ⟨w.heap.size, 1, none⟩ (.int .i64 y)) ∧
      ((w2.setCell ⟨w.heap.size, 0, none⟩ (.int .i64 x)).setCell ⟨w.heap.size, 1, none⟩ (.int .i64 y)).heap[w.heap.size]? = some (.cells #[.int .i64 x, .int .i64 y] 41 (0, 0))) := fun x y =>
    ⟨(hin2.set2 (g := w.heap.size) (.inr rfl) (Nat.le_refl _) (.int .i64 x) (.int .i64 y)).ends (by have := HRD.out; omega) (by have := HRD.out; have := HM.out; omega), by rw [heap_setCell_same _ _ 1 _ _ _ (heap_setCell_same _ _ 0 _ _ _ hr2)]; rfl⟩
  unfold enR enA at HE ⊢
  obtain ⟨X, hX⟩ : ∃ X, O.elim (0 : Int) (·.key) = X := ⟨_, rfl⟩
  obtain ⟨Y, hY⟩ : ∃ Y, O.elim (0 : Int) (·.val) = Y := ⟨_, rfl⟩
  obtain ⟨Z, hZ⟩ : ∃ Z, O.isSome = Z := ⟨_, rfl⟩
  rw [hX, hY, hZ] at HE ⊢
  have HXX : Hid (enR O = .tuple #[.agg #[.int .i64 X, .int .i64 Y], .bool Z]) := by show _ = _; unfold enR enA; rw [hX, hY, hZ]
  clear hO hX hY hZ hin2 hk2 h20 h21 hr2 HC HIN2 HR2
  go_wp2_with fail
  refine bodyPost_ret (results_row_tmp rfl _ _ w.heap.size 41 #[.int .i64 X, .int .i64 Y] (0, 0) _ rfl (HE.out X Y).2 HU.out rfl HINF.out) rfl ?_
  rw [HO.out, HXX.out]
  exact (HE.out X Y).1
theorem ReadsTo.wide {I : AImpl} {p : Value} {A : Ar} {rd bd bd2 : Int} {F : Nat → Prop} {v : Value} {w : World} {e : Ending} {w' : World} (h : ReadsTo I p A rd F bd v w e w') (hb : bd ≤ bd2) : ReadsTo I p A rd F bd2 v w e w' := by
  obtain ⟨F', rd', h1, h2, h3, h4, h5⟩ := h
  exact ⟨F', rd', h1, h2, h3, h4, by omega⟩
theorem TreeAt.most {A : Ar} {i : Nat} {t : Tr} {l : List En} (hT : TreeAt A i t l) : 2 * (t.ht : Int) ≤ mostJ l.length := by
  unfold mostJ
  have h7 := hT.len
  have h8 := hT.ht (by omega)
  omega
theorem rkImpl (I : AImpl) : RkImpl I where
  rank := fun k w hI hT h0 h1 hk => rankP_any I k w hI hT h0 h1 hk
  select := fun j w hI hT h0 h1 hj => (selectP_any I j w hI hT h0 (by omega) hj).mono fun e w' h => h.wide hT.most
  count := fun lo hi w hI hT h0 h1 hlo hhi => countP_any I lo hi w hI hT h0 h1 hlo hhi
  median := fun w hI hT h0 h1 => medianP_any I w hI hT h0 h1
end Go.Proofs.Ytcdfgnbdbmmcpaa
