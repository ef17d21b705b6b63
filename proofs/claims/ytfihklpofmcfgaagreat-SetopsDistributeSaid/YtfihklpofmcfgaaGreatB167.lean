/- Of the proofs of SetopsAlgebra, SetopsDistribute: LkOk2, BkOk2, BkAsc, InsPath, BkOk3, BkOk, UpPl0. -/
import Derived.Test.YtfihklpofmcfgaaGreatB166
import Derived.Deep.QuietTactic
set_option linter.unusedVariables false
set_option linter.unusedSimpArgs false
namespace Go.Proofs.YtfihklpofmcfgaaGreat
open Go.RowKit
section
variable {I : AImpl} {w wr wx : World} {F : Nat → Prop} {p : Value} {A : Ar} {rd : Int} {X : Nat → Prop}
theorem In.set2 (h : In I w F p A rd X wr) {g : Nat} (hg : X g) (hn : w.heap.size ≤ g) (x y : Value) : In I w F p A rd X ((wr.setCell ⟨g, 0, none⟩ x).setCell ⟨g, 1, none⟩ y) := by
  obtain ⟨F1, f1, f2, f3⟩ := h.mr.has
  have ho : ∀ k, k ≠ g → ((wr.setCell ⟨g, 0, none⟩ x).setCell ⟨g, 1, none⟩ y).heap[k]? = wr.heap[k]? := fun k hk => by rw [heap_setCell_other _ _ _ _ hk, heap_setCell_other _ _ _ _ hk]
  have hsz : ((wr.setCell ⟨g, 0, none⟩ x).setCell ⟨g, 1, none⟩ y).heap.size = wr.heap.size := by simp [World.setCell]
  refine ⟨⟨⟨F1, I.keep f1 fun k hk => ho k fun e => (f3 g (.inr hg)).2 (e ▸ hk), f2, fun k hk => ⟨by rw [hsz]; exact (f3 k hk).1, (f3 k hk).2⟩⟩, ?_, Nat.zero_le _⟩, fun k hk => ?_⟩
  · exact h.mr.below.trans ⟨rfl, rfl, rfl, Nat.le_of_eq hsz.symm, fun k hk => by omega⟩
  · have hne : k ≠ g := fun e => by have := hk.1; omega
    exact (ho k hne).trans (h.kp k hk)
theorem In.call {bd : Int} {v : Value} {f : FuncId} {args : Array Value} (h : In I w F p A rd X wr) (hc : ∀ F1, I.Is wr p A rd F1 → Calls Tryz.prog f args wr (ReadsTo I p A rd F1 bd v wr)) :
    Calls Tryz.prog f args wr fun e w' => e = .returned v ∧ ∃ rd', In I w F p A rd' X w' ∧ Keeps X wr w' ∧ rd ≤ rd' ∧ rd' ≤ rd + bd := by
  refine (mr_call h.mr hc).mono ?_
  rintro e w1 ⟨he, rd', h1, h2, h3, h4⟩
  exact ⟨he, rd', ⟨h1, fun k hk => (h2 k (.inl hk)).trans (h.kp k hk)⟩, fun k hk => h2 k (.inr hk), h3, h4⟩
end
/-- the result's box and the best entry's box -/
structure BB (I : AImpl) (w : World) (F : Nat → Prop) (p : Value) (A : Ar) (rd : Int) (r b : Nat) (o : Option En) (wr : World) : Prop where
  ins : In I w F p A rd (fun k => k = r ∨ k = b) wr
  hr : wr.heap[r]? = some (.cells #[.int .i64 0, .int .i64 0] 69 (0, 0))
  hb : wr.heap[b]? = some (.cells #[.int .i64 (o.elim 0 (·.key)), .int .i64 (o.elim 0 (·.val))] 69 (0, 0))
  ne : r ≠ b
  old : w.heap.size ≤ r ∧ w.heap.size ≤ b
section
variable {I : AImpl} {w wr wx : World} {F : Nat → Prop} {p : Value} {A : Ar} {rd rd' : Int} {r b : Nat} {o : Option En}
theorem BB.start (h : I.Is w p A rd F) : BB I w F p A rd w.heap.size (w.heap.size + 1) none ((w.alloc (.cells #[.int .i64 0, .int .i64 0] 69)).alloc (.cells #[.int .i64 0, .int .i64 0] 69)) := by
  have h1 := (In.start h).alloc (.cells #[.int .i64 0, .int .i64 0] 69)
  have h2 := h1.alloc (.cells #[.int .i64 0, .int .i64 0] 69)
  refine ⟨h2.less fun k hk => ?_, ?_, ?_, by omega, by omega⟩
  · rcases hk with rfl | rfl
    · exact .inl (.inr rfl)
    · exact .inr (by simp)
  · exact (h1.keeps (below_new7 _ _) _ (.inr rfl)).trans (heap_alloc_new w _)
  · have := heap_alloc_new (w.alloc (.cells #[.int .i64 0, .int .i64 0] 69)) (.cells #[.int .i64 0, .int .i64 0] 69)
    rw [World.size_alloc] at this
    exact this
theorem BB.calm (h : BB I w F p A rd r b o wr) (hb : Below wr.heap.size wr wx) : BB I w F p A rd r b o wx :=
  ⟨h.ins.calm hb, (h.ins.keeps hb r (.inl rfl)).trans h.hr, (h.ins.keeps hb b (.inr rfl)).trans h.hb, h.ne, h.old⟩
theorem BB.step (h : BB I w F p A rd r b o wr) (hi : In I w F p A rd' (fun k => k = r ∨ k = b) wx) (hk : Keeps (fun k => k = r ∨ k = b) wr wx) : BB I w F p A rd' r b o wx :=
  ⟨hi, (hk r (.inl rfl)).trans h.hr, (hk b (.inr rfl)).trans h.hb, h.ne, h.old⟩
theorem BB.put (h : BB I w F p A rd r b o wr) (e : En) : BB I w F p A rd r b (some e) ((wr.setCell ⟨b, 0, none⟩ (.int .i64 e.key)).setCell ⟨b, 1, none⟩ (.int .i64 e.val)) :=
  ⟨h.ins.set2 (.inr rfl) h.old.2 _ _, by rw [heap_setCell_other _ _ _ _ h.ne, heap_setCell_other _ _ _ _ h.ne]; exact h.hr, by rw [heap_setCell_same _ b 1 _ _ _ (heap_setCell_same wr b 0 _ _ _ h.hb)]; rfl, h.ne, h.old⟩
theorem BB.ends {rd0 bd : Int} (h : BB I w F p A rd r b o wr) (h0 : rd0 ≤ rd) (h1 : rd ≤ rd0 + bd) :
    ReadsTo I p A rd0 F bd (enR o) w (.returned (.tuple #[.agg #[.int .i64 (o.elim 0 (·.key)), .int .i64 (o.elim 0 (·.val))], .bool o.isSome])) ((wr.setCell ⟨r, 0, none⟩ (.int .i64 (o.elim 0 (·.key)))).setCell ⟨r, 1, none⟩ (.int .i64 (o.elim 0 (·.val)))) ∧
    ((wr.setCell ⟨r, 0, none⟩ (.int .i64 (o.elim 0 (·.key)))).setCell ⟨r, 1, none⟩ (.int .i64 (o.elim 0 (·.val)))).heap[r]? = some (.cells #[.int .i64 (o.elim 0 (·.key)), .int .i64 (o.elim 0 (·.val))] 69 (0, 0)) :=
  ⟨(h.ins.set2 (.inl rfl) h.old.1 _ _).ends h0 h1, by rw [heap_setCell_same _ r 1 _ _ _ (heap_setCell_same wr r 0 _ _ _ h.hr)]; rfl⟩
end
set_option maxRecDepth 100000 in
theorem entry_any (x : Nd) (w : World) : Calls Tryz.prog 154 #[.agg (ndRow x)] w (Calm w (.agg #[.int .i64 x.key, .int .i64 x.val])) := by
  have hin : (Tryz.prog.info? 69).map (·.size) = some 2 := by kernel_rfl
  have HINF := Lib.hid hin
  have HU : Hid _ := Lib.hid Tryz.underlying69
  have hb := below_new7 w (Obj.cells (ndRow x) 81)
  have hbx := heap_alloc_new w (Obj.cells (ndRow x) 81)
  clear hin
  go_enter Tryz.func154, Tryz.ntmps154
  unfold ndRow
  go_upto_region 1 with fail
  rw [show #[Value.int .i64 x.key, .int .i64 x.val, .int .u32 (x.left : Int), .int .u32 (x.right : Int), .int .i64 x.size, .int .i64 x.sum, .int .i64 x.mn, .int .i64 x.mx] = ndRow x from rfl]
  have hsz : w.heap.size < (w.alloc (Obj.cells (ndRow x) 81)).heap.size := by simp
  have hs1 : (w.alloc (Obj.cells (ndRow x) 81)).heap.size = w.heap.size + 1 := World.size_alloc _ _
  generalize w.alloc (Obj.cells (ndRow x) 81) = w2 at hb hbx hsz hs1 ⊢
  generalize hg : w.heap.size = g at hb hbx hsz hs1 ⊢
  have hb3 := below_new7 w2 (Obj.cells #[.int .i64 0, .int .i64 0] 69)
  have hr3 := heap_alloc_new w2 (Obj.cells #[.int .i64 0, .int .i64 0] 69)
  have hx3 := (hb3.block g hsz).trans hbx
  have hb4 := hb.trans (hb3.mono (Nat.le_of_lt hsz))
  (try rw [World.size_alloc])
  generalize w2.alloc (Obj.cells #[.int .i64 0, .int .i64 0] 69) = w3 at hr3 hx3 hb4 ⊢
  clear hb3
  (try rw [hg])
  rw [hs1] at hr3
  generalize hq : g + 1 = q at hr3 ⊢
  have x0 : w3.cell? ⟨g, 0, none⟩ = some (.int .i64 x.key) := by rw [cell_of_row _ _ _ _ _ _ hx3]; rfl
  have x1 : w3.cell? ⟨g, 1, none⟩ = some (.int .i64 x.val) := by rw [cell_of_row _ _ _ _ _ _ hx3]; rfl
  obtain ⟨r0, r1⟩ := two_ofE hr3
  have f0 := frozen_of_row _ _ 0 _ _ hr3
  have f1 := frozen_of_row _ _ 1 _ _ hr3
  have hgq : g ≠ q := by omega
  have HFIN : Hid (Below g w ((w3.setCell ⟨q, 0, none⟩ (.int .i64 x.key)).setCell ⟨q, 1, none⟩ (.int .i64 x.val)) ∧ ((w3.setCell ⟨q, 0, none⟩ (.int .i64 x.key)).setCell ⟨q, 1, none⟩ (.int .i64 x.val)).heap[q]? = some (.cells #[.int .i64 x.key, .int .i64 x.val] 69 (0, 0))) :=
    ⟨(hb4.setCell (by show g ≤ q; omega) _).setCell (by show g ≤ q; omega) _, by rw [heap_setCell_same _ q 1 _ _ _ (heap_setCell_same w3 q 0 _ _ _ hr3)]; rfl⟩
  have HGG := Lib.hid hg
  clear hb hbx hsz hs1 hr3 hx3 hb4 hg hq
  go_wp2_with fail
  refine bodyPost_ret (results_cell_row rfl _ _ q 69 #[.int .i64 x.key, .int .i64 x.val] (0, 0) _ rfl HFIN.out.2 HU.out rfl HINF.out) rfl ?_
  exact ⟨rfl, by rw [HGG.out]; exact HFIN.out.1⟩
def Waybefore (I : AImpl) (w : World) (F : Nat → Prop) (p : Value) (A : Ar) (rd0 : Int) (k : Int) (eq : Bool) (R : Option En) (top : Int) (r b U : Nat) (fd x c : Value) (wr : World) : Prop :=
  ∃ (i n : Nat) (u : Tr) (rd : Int) (o : Option En), fd = .bool o.isSome ∧ x = .int .u32 (i : Int) ∧ c = .int .i64 (n : Int) ∧ Sub A i u ∧ bef A.nd (k + if eq then 1 else 0) u o = R ∧ rd0 ≤ rd ∧ rd + (u.ht : Int) ≤ top ∧ n + u.size ≤ U ∧ BB I w F p A rd r b o wr
set_option maxHeartbeats 4000000 in
set_option maxRecDepth 100000 in
theorem beforeH_any (I : AImpl) {p : Value} {A : Ar} {rd : Int} {F : Nat → Prop} {i : Nat} {t : Tr} {l : List En} (bd : Int) (k : Int) (eq : Bool) (w : World) (hI : I.Is w p A rd F) (hT : TreeAt A i t l) (h0 : 0 ≤ rd) (h1 : rd ≤ 1099511627776) (hbd : (t.ht : Int) ≤ bd) :
    Calls Tryz.prog 142 #[p, .int .u32 (i : Int), .int .i64 k, .bool eq] w (ReadsTo I p A rd F (bd) (enR (bef A.nd (k + if eq then 1 else 0) t none)) w) := by
  obtain ⟨pa, rfl⟩ := I.ptr hI
  have hin : (Tryz.prog.info? 69).map (·.size) = some 2 := by kernel_rfl
  have HINF := Lib.hid hin
  have HU : Hid _ := Lib.hid Tryz.underlying69
  have hb : (t.ht : Int) ≤ bd ∧ t.ht ≤ 65536 := ⟨hbd, hT.bound.2⟩
  clear hbd
  obtain ⟨R, hR⟩ : ∃ R, bef A.nd (k + if eq then 1 else 0) t none = R := ⟨_, rfl⟩
  rw [hR]
  obtain ⟨M, hM⟩ : ∃ M, bd = M := ⟨_, rfl⟩
  rw [hM] at hb ⊢
  obtain ⟨held, hv⟩ := hT.inv
  have hcap := hv.ok.cap2
  have hhd := hT.held
  obtain ⟨U, hUU⟩ : ∃ U, U + A.σ.free.length = A.σ.cap := ⟨A.σ.cap - A.σ.free.length, by omega⟩
  have HUU : Hid (U ≤ 65536 ∧ t.size ≤ U) := ⟨by omega, by omega⟩
  have HOK := Lib.hid hv.ok
  have HRD : Hid (0 ≤ rd ∧ rd ≤ 1099511627776 ∧ (t.ht : Int) ≤ M ∧ t.ht ≤ 65536) := ⟨h0, h1, hb.1, hb.2⟩
  have hbb := BB.start hI
  have HLP : Hid (∀ wx F1, I.Is wx (.pointer (some pa)) A rd F1 → Calls Tryz.prog 94 #[.pointer (some pa)] wx (Calm wx (.int .i64 (U : Int)))) := fun wx F1 h => longest_any I wx h hUU
  have HSUB := Lib.hid hT.sub
  have HRR := Lib.hid hR
  clear hI hT h0 h1 hb hR hM hv hin hcap hhd hUU
  go_enter Tryz.func142, Tryz.ntmps142
  go_upto_region 2 with fail
  generalize (w.alloc (Obj.cells #[.int .i64 0, .int .i64 0] 69)).alloc (Obj.cells #[.int .i64 0, .int .i64 0] 69) = w1 at hbb ⊢
  obtain ⟨r, hr⟩ : ∃ r, w.heap.size = r := ⟨_, rfl⟩
  rw [hr] at hbb ⊢
  generalize hb1 : r + 1 = b at hbb ⊢
  have HBB := Lib.hid hbb
  clear hbb hr hb1
  go_wp2_with fail
  obtain ⟨F1, f1, -, -⟩ := HBB.out.ins.mr.has
  refine (HLP.out w1 F1 f1).mono ?_
  rintro e w1' ⟨rfl, hb1'⟩
  have HW0 : Hid (Waybefore I w F (.pointer (some pa)) A rd k eq R (rd + (t.ht : Int)) r b U (.bool false) (.int .u32 (i : Int)) (.int .i64 0) w1') := ⟨i, 0, t, rd, none, rfl, rfl, rfl, HSUB.out, HRR.out, Int.le_refl _, Int.le_refl _, by have := HUU.out; omega, HBB.out.calm hb1'⟩
  clear f1 hb1' HBB HLP
  go_wp2_with fail
  go_loopw [11, 12, 18] (fun fd x c wr => Waybefore I w F (.pointer (some pa)) A rd k eq R (rd + (t.ht : Int)) r b U fd x c wr) (fun _ _ c _ => U - (intOf c).toNat)
  case atStart => exact HW0.out
  case round =>
    clear HW0
    obtain ⟨i, n, u, rd1, o, rfl, rfl, rfl, hu, hg, hr0, hr1, hn, hB⟩ := hrel
    rcases Nat.lt_or_ge n U with hnu | hnu
    rotate_left
    · have hnu2 : decide ((n : Int) < (U : Int)) = false := decide_eq_false (by omega)
      have hu0 : u = .nil := by
        cases u with
        | nil => rfl
        | node i l r =>
          have : (Tr.node i l r).size = l.size + r.size + 1 := rfl
          omega
      subst hu0
      have ho : o = R := hg
      subst ho
      have he := hB.ends hr0 (bd := M) (by have := HRD.out; omega)
      have hUn : ¬ n < U := Nat.not_lt.2 hnu
      clear hu hg hr0 hr1 hn hnu
      have HE := Lib.hid he
      obtain ⟨c0, c1⟩ := two_ofE hB.hb
      obtain ⟨r0, r1⟩ := two_ofE hB.hr
      have f0 := frozen_of_row _ _ 0 _ _ hB.hr
      have f1 := frozen_of_row _ _ 1 _ _ hB.hr
      have hne := hB.ne
      have hne2 : b ≠ r := fun e => hne e.symm
      obtain ⟨X, hX⟩ : ∃ X, o.elim (0 : Int) (·.key) = X := ⟨_, rfl⟩
      obtain ⟨Y, hY⟩ : ∃ Y, o.elim (0 : Int) (·.val) = Y := ⟨_, rfl⟩
      rw [hX] at c0 HE
      rw [hY] at c1 HE
      clear hB he hX hY
      go_wp2_with fail
      refine bodyPost_ret (results_row_tmp rfl _ _ r 69 #[.int .i64 X, .int .i64 Y] (0, 0) _ rfl HE.out.2 HU.out rfl HINF.out) rfl ?_
      exact HE.out.1
    have hnu2 : decide ((n : Int) < (U : Int)) = true := decide_eq_true (by omega)
    have hnu3 : (n : Int) < (U : Int) := by omega
    have hU4 : (U : Int) ≤ 65536 := by have := HUU.out.1; omega
    have hn0 : (0 : Int) ≤ (n : Int) := by omega
    cases u with
    | nil =>
      obtain rfl : i = 0 := by
        cases hu with
        | nil => rfl
      have ho : o = R := hg
      subst ho
      have HR1 : Hid (rd ≤ rd1 ∧ rd1 ≤ rd + (t.ht : Int)) := ⟨hr0, by have : (Tr.nil.ht : Nat) = 0 := rfl; omega⟩
      have HBB := Lib.hid hB
      clear hu hg hr0 hr1 hB hn
      go_wp2_with fail
      refine (HBB.out.ins.off (by have := HR1.out; have := HRD.out; omega) (by have := HR1.out; have := HRD.out; omega)).mono ?_
      rintro e w2 ⟨rfl, hin2, hk2⟩
      have hB2 := (HBB.out.step hin2 hk2).calm (below_new7 w2 (Obj.cells (ndRow Nd.zero) 81))
      clear hin2 hk2 HBB
      unfold ndRow
      go_upto_region 7 with fail
      rw [show #[Value.int .i64 Nd.zero.key, .int .i64 Nd.zero.val, .int .u32 (Nd.zero.left : Int), .int .u32 (Nd.zero.right : Int), .int .i64 Nd.zero.size, .int .i64 Nd.zero.sum, .int .i64 Nd.zero.mn, .int .i64 Nd.zero.mx] = ndRow Nd.zero from rfl]
      generalize w2.alloc (Obj.cells (ndRow Nd.zero) 81) = w3 at hB2 ⊢
      have hB := hB2
      clear hB2
      have he := hB.ends (rd0 := rd) (bd := M) HR1.out.1 (by have := HR1.out; have := HRD.out; omega)
      generalize w2.heap.size = g
      have HE := Lib.hid he
      obtain ⟨c0, c1⟩ := two_ofE hB.hb
      obtain ⟨r0, r1⟩ := two_ofE hB.hr
      have f0 := frozen_of_row _ _ 0 _ _ hB.hr
      have f1 := frozen_of_row _ _ 1 _ _ hB.hr
      have hne := hB.ne
      have hne2 : b ≠ r := fun e => hne e.symm
      obtain ⟨X, hX⟩ : ∃ X, o.elim (0 : Int) (·.key) = X := ⟨_, rfl⟩
      obtain ⟨Y, hY⟩ : ∃ Y, o.elim (0 : Int) (·.val) = Y := ⟨_, rfl⟩
      rw [hX] at c0 HE
      rw [hY] at c1 HE
      clear hB he hX hY
      go_wp2_with fail
      refine bodyPost_ret (results_row_tmp rfl _ _ r 69 #[.int .i64 X, .int .i64 Y] (0, 0) _ rfl HE.out.2 HU.out rfl HINF.out) rfl ?_
      exact HE.out.1
    | node i2 l2 r2 =>
      obtain ⟨rfl, h0, hon, hsl, hsr⟩ : i2 = i ∧ i ≠ 0 ∧ A.σ.on i = true ∧ Sub A (A.nd i).left l2 ∧ Sub A (A.nd i).right r2 := by
        cases hu with
        | node _ _ _ h1 h2 h3 h4 => exact ⟨rfl, h1, h2, h3, h4⟩
      have hi4 : i2 < 4294967296 := by have := HOK.out.on i2 hon; have := HOK.out.cap2; omega
      have hht : (Tr.node i2 l2 r2).ht = 1 + max l2.ht r2.ht := rfl
      rw [show (Tr.node i2 l2 r2).size = l2.size + r2.size + 1 from rfl] at hn
      have HNL : Hid (n + 1 + l2.size ≤ U) := by show _ ≤ _; omega
      have HNR : Hid (n + 1 + r2.size ≤ U) := by show _ ≤ _; omega
      have HSL := Lib.hid hsl
      have HSR := Lib.hid hsr
      have HON := Lib.hid hon
      have HI4 := Lib.hid hi4
      have HR1 : Hid (rd ≤ rd1 ∧ rd1 + 1 + (l2.ht : Int) ≤ rd + (t.ht : Int) ∧ rd1 + 1 + (r2.ht : Int) ≤ rd + (t.ht : Int)) := ⟨hr0, by omega, by omega⟩
      have HBB := Lib.hid hB
      unfold bef at hg
      have HG := Lib.hid hg
      clear hu hg hr0 hr1 hB h0 hon hsl hsr hi4 hht hn
      go_wp2_with fail
      refine (HBB.out.ins.node (by have := HR1.out; have := HRD.out; omega) (by have := HR1.out; have := HRD.out; omega) HI4.out HON.out).mono ?_
      rintro e w2 ⟨rfl, hin2, hk2⟩
      have HB2 := Lib.hid (HBB.out.step hin2 hk2)
      clear hin2 hk2 HBB
      unfold ndRow
      go_upto_region 7 with fail
      rw [show #[Value.int .i64 (A.nd i2).key, .int .i64 (A.nd i2).val, .int .u32 ((A.nd i2).left : Int), .int .u32 ((A.nd i2).right : Int), .int .i64 (A.nd i2).size, .int .i64 (A.nd i2).sum, .int .i64 (A.nd i2).mn, .int .i64 (A.nd i2).mx] = ndRow (A.nd i2) from rfl]
      have hB3 := HB2.out.calm (below_new7 w2 (Obj.cells (ndRow (A.nd i2)) 81))
      have hbx := heap_alloc_new w2 (Obj.cells (ndRow (A.nd i2)) 81)
      have hgb : b < w2.heap.size := HB2.out.ins.mr.lt (.inr (.inr rfl))
      have hgl : w2.heap.size < (w2.alloc (Obj.cells (ndRow (A.nd i2)) 81)).heap.size := by simp
      generalize w2.alloc (Obj.cells (ndRow (A.nd i2)) 81) = w3 at hB3 hbx hgl ⊢
      generalize w2.heap.size = g at hbx hgb hgl ⊢
      have x0 : w3.cell? ⟨g, 0, none⟩ = some (.int .i64 (A.nd i2).key) := by rw [cell_of_row _ _ _ _ _ _ hbx]; rfl
      have x1 : w3.cell? ⟨g, 1, none⟩ = some (.int .i64 (A.nd i2).val) := by rw [cell_of_row _ _ _ _ _ _ hbx]; rfl
      have x2 : w3.cell? ⟨g, 2, none⟩ = some (.int .u32 ((A.nd i2).left : Int)) := by rw [cell_of_row _ _ _ _ _ _ hbx]; rfl
      have x3 : w3.cell? ⟨g, 3, none⟩ = some (.int .u32 ((A.nd i2).right : Int)) := by rw [cell_of_row _ _ _ _ _ _ hbx]; rfl
      have x4 : w3.cell? ⟨g, 4, none⟩ = some (.int .i64 (A.nd i2).size) := by rw [cell_of_row _ _ _ _ _ _ hbx]; rfl
      have x5 : w3.cell? ⟨g, 5, none⟩ = some (.int .i64 (A.nd i2).sum) := by rw [cell_of_row _ _ _ _ _ _ hbx]; rfl
      have x6 : w3.cell? ⟨g, 6, none⟩ = some (.int .i64 (A.nd i2).mn) := by rw [cell_of_row _ _ _ _ _ _ hbx]; rfl
      have x7 : w3.cell? ⟨g, 7, none⟩ = some (.int .i64 (A.nd i2).mx) := by rw [cell_of_row _ _ _ _ _ _ hbx]; rfl
      have HX := Lib.hid hbx
      have HGL : Hid (b < g ∧ g < w3.heap.size) := ⟨hgb, hgl⟩
      have HB3 := Lib.hid hB3
      have HEN := Lib.hid (entry_any (A.nd i2) w3)
      have hg := HG.out
      clear hB3 hbx hgb hgl HB2 HG
      cases eq with
      | true =>
        rw [show k + (if true = true then 1 else 0) = k + 1 from rfl] at hg
        rcases Int.lt_trichotomy (A.nd i2).key k with h | h | h
        · have q1 : decide ((A.nd i2).key < k) = true := decide_eq_true (by omega)
          have q2 : decide ((A.nd i2).key > k) = false := decide_eq_false (by omega)
          have q3 : decide (k < (A.nd i2).key) = false := decide_eq_false (by omega)
          have q4 : ((A.nd i2).key == k) = false := by simp; omega
          rw [if_pos (by omega)] at hg
          clear h
          have HG := Lib.hid hg
          clear hg
          go_wp2_with fail
          refine HEN.out.mono ?_
          rintro e w4 ⟨rfl, hb4⟩
          have hx4 := (hb4.block g HGL.out.2).trans HX.out
          have hB4 := HB3.out.calm hb4
          clear x0 x1 x2 x3 x4 x5 x6 x7 hb4
          have x2 : w4.cell? ⟨g, 2, none⟩ = some (.int .u32 ((A.nd i2).left : Int)) := by rw [cell_of_row _ _ _ _ _ _ hx4]; rfl
          have x3 : w4.cell? ⟨g, 3, none⟩ = some (.int .u32 ((A.nd i2).right : Int)) := by rw [cell_of_row _ _ _ _ _ _ hx4]; rfl
          obtain ⟨c0, c1⟩ := two_ofE hB4.hb
          have f0 := frozen_of_row _ _ 0 _ _ hB4.hb
          have f1 := frozen_of_row _ _ 1 _ _ hB4.hb
          have hgne : g ≠ b := by have := HGL.out; omega
          have hgne2 : b ≠ g := by have := HGL.out; omega
          obtain ⟨X, hX⟩ : ∃ X, o.elim (0 : Int) (·.key) = X := ⟨_, rfl⟩
          obtain ⟨Y, hY⟩ : ∃ Y, o.elim (0 : Int) (·.val) = Y := ⟨_, rfl⟩
          rw [hX] at c0
          rw [hY] at c1
          have HE : Hid (Waybefore I w F (.pointer (some pa)) A rd k true R (rd + (t.ht : Int)) r b U (.bool true) (.int .u32 ((A.nd i2).right : Int)) (.int .i64 ((n + 1 : Nat) : Int)) ((w4.setCell ⟨b, 0, none⟩ (.int .i64 (A.nd i2).key)).setCell ⟨b, 1, none⟩ (.int .i64 (A.nd i2).val))) := ⟨_, n + 1, r2, rd1 + 1, some (ndE (A.nd i2)), rfl, rfl, rfl, HSR.out, HG.out, by have := HR1.out; omega, HR1.out.2.2, HNR.out, hB4.put (ndE (A.nd i2))⟩
          clear hx4 hB4 hX hY HX HB3 HEN HG
          go_wp2_with fail
          exact ⟨by rw [show ((n : Int) + 1) = ((n + 1 : Nat) : Int) by omega]; exact HE.out, by simp [intOf]; omega⟩
        · have q1 : decide ((A.nd i2).key < k) = false := decide_eq_false (by omega)
          have q2 : decide ((A.nd i2).key > k) = false := decide_eq_false (by omega)
          have q3 : decide (k < (A.nd i2).key) = false := decide_eq_false (by omega)
          have q4 : ((A.nd i2).key == k) = true := by simp; omega
          rw [if_pos (by omega)] at hg
          clear h
          have HG := Lib.hid hg
          clear hg
          go_wp2_with fail
          refine HEN.out.mono ?_
          rintro e w4 ⟨rfl, hb4⟩
          have hx4 := (hb4.block g HGL.out.2).trans HX.out
          have hB4 := HB3.out.calm hb4
          clear x0 x1 x2 x3 x4 x5 x6 x7 hb4
          have x2 : w4.cell? ⟨g, 2, none⟩ = some (.int .u32 ((A.nd i2).left : Int)) := by rw [cell_of_row _ _ _ _ _ _ hx4]; rfl
          have x3 : w4.cell? ⟨g, 3, none⟩ = some (.int .u32 ((A.nd i2).right : Int)) := by rw [cell_of_row _ _ _ _ _ _ hx4]; rfl
          obtain ⟨c0, c1⟩ := two_ofE hB4.hb
          have f0 := frozen_of_row _ _ 0 _ _ hB4.hb
          have f1 := frozen_of_row _ _ 1 _ _ hB4.hb
          have hgne : g ≠ b := by have := HGL.out; omega
          have hgne2 : b ≠ g := by have := HGL.out; omega
          obtain ⟨X, hX⟩ : ∃ X, o.elim (0 : Int) (·.key) = X := ⟨_, rfl⟩
          obtain ⟨Y, hY⟩ : ∃ Y, o.elim (0 : Int) (·.val) = Y := ⟨_, rfl⟩
          rw [hX] at c0
          rw [hY] at c1
          have HE : Hid (Waybefore I w F (.pointer (some pa)) A rd k true R (rd + (t.ht : Int)) r b U (.bool true) (.int .u32 ((A.nd i2).right : Int)) (.int .i64 ((n + 1 : Nat) : Int)) ((w4.setCell ⟨b, 0, none⟩ (.int .i64 (A.nd i2).key)).setCell ⟨b, 1, none⟩ (.int .i64 (A.nd i2).val))) := ⟨_, n + 1, r2, rd1 + 1, some (ndE (A.nd i2)), rfl, rfl, rfl, HSR.out, HG.out, by have := HR1.out; omega, HR1.out.2.2, HNR.out, hB4.put (ndE (A.nd i2))⟩
          clear hx4 hB4 hX hY HX HB3 HEN HG
          go_wp2_with fail
          exact ⟨by rw [show ((n : Int) + 1) = ((n + 1 : Nat) : Int) by omega]; exact HE.out, by simp [intOf]; omega⟩
        · have q1 : decide ((A.nd i2).key < k) = false := decide_eq_false (by omega)
          have q2 : decide ((A.nd i2).key > k) = true := decide_eq_true (by omega)
          have q3 : decide (k < (A.nd i2).key) = true := decide_eq_true (by omega)
          have q4 : ((A.nd i2).key == k) = false := by simp; omega
          rw [if_neg (by omega)] at hg
          clear h
          have HE : Hid (Waybefore I w F (.pointer (some pa)) A rd k true R (rd + (t.ht : Int)) r b U (.bool o.isSome) (.int .u32 ((A.nd i2).left : Int)) (.int .i64 ((n + 1 : Nat) : Int)) w3) := ⟨_, n + 1, l2, rd1 + 1, o, rfl, rfl, rfl, HSL.out, hg, by have := HR1.out; omega, HR1.out.2.1, HNL.out, HB3.out⟩
          generalize o.isSome = ob at HE ⊢
          clear hg HX HB3 HEN
          go_wp2_with fail
          exact ⟨by rw [show ((n : Int) + 1) = ((n + 1 : Nat) : Int) by omega]; exact HE.out, by simp [intOf]; omega⟩
      | false =>
        rw [show k + (if false = true then 1 else 0) = k + 0 from rfl] at hg
        rcases Int.lt_trichotomy (A.nd i2).key k with h | h | h
        · have q1 : decide ((A.nd i2).key < k) = true := decide_eq_true (by omega)
          have q2 : decide ((A.nd i2).key > k) = false := decide_eq_false (by omega)
          have q3 : decide (k < (A.nd i2).key) = false := decide_eq_false (by omega)
          have q4 : ((A.nd i2).key == k) = false := by simp; omega
          rw [if_pos (by omega)] at hg
          clear h
          have HG := Lib.hid hg
          clear hg
          go_wp2_with fail
          refine HEN.out.mono ?_
          rintro e w4 ⟨rfl, hb4⟩
          have hx4 := (hb4.block g HGL.out.2).trans HX.out
          have hB4 := HB3.out.calm hb4
          clear x0 x1 x2 x3 x4 x5 x6 x7 hb4
          have x2 : w4.cell? ⟨g, 2, none⟩ = some (.int .u32 ((A.nd i2).left : Int)) := by rw [cell_of_row _ _ _ _ _ _ hx4]; rfl
          have x3 : w4.cell? ⟨g, 3, none⟩ = some (.int .u32 ((A.nd i2).right : Int)) := by rw [cell_of_row _ _ _ _ _ _ hx4]; rfl
          obtain ⟨c0, c1⟩ := two_ofE hB4.hb
          have f0 := frozen_of_row _ _ 0 _ _ hB4.hb
          have f1 := frozen_of_row _ _ 1 _ _ hB4.hb
          have hgne : g ≠ b := by have := HGL.out; omega
          have hgne2 : b ≠ g := by have := HGL.out; omega
          obtain ⟨X, hX⟩ : ∃ X, o.elim (0 : Int) (·.key) = X := ⟨_, rfl⟩
          obtain ⟨Y, hY⟩ : ∃ Y, o.elim (0 : Int) (·.val) = Y := ⟨_, rfl⟩
          rw [hX] at c0
          rw [hY] at c1
          have HE : Hid (Waybefore I w F (.pointer (some pa)) A rd k false R (rd + (t.ht : Int)) r b U (.bool true) (.int .u32 ((A.nd i2).right : Int)) (.int .i64 ((n + 1 : Nat) : Int)) ((w4.setCell ⟨b, 0, none⟩ (.int .i64 (A.nd i2).key)).setCell ⟨b, 1, none⟩ (.int .i64 (A.nd i2).val))) := ⟨_, n + 1, r2, rd1 + 1, some (ndE (A.nd i2)), rfl, rfl, rfl, HSR.out, HG.out, by have := HR1.out; omega, HR1.out.2.2, HNR.out, hB4.put (ndE (A.nd i2))⟩
          clear hx4 hB4 hX hY HX HB3 HEN HG
          go_wp2_with fail
          exact ⟨by rw [show ((n : Int) + 1) = ((n + 1 : Nat) : Int) by omega]; exact HE.out, by simp [intOf]; omega⟩
        · have q1 : decide ((A.nd i2).key < k) = false := decide_eq_false (by omega)
          have q2 : decide ((A.nd i2).key > k) = false := decide_eq_false (by omega)
          have q3 : decide (k < (A.nd i2).key) = false := decide_eq_false (by omega)
          have q4 : ((A.nd i2).key == k) = true := by simp; omega
          rw [if_neg (by omega)] at hg
          clear h
          have HE : Hid (Waybefore I w F (.pointer (some pa)) A rd k false R (rd + (t.ht : Int)) r b U (.bool o.isSome) (.int .u32 ((A.nd i2).left : Int)) (.int .i64 ((n + 1 : Nat) : Int)) w3) := ⟨_, n + 1, l2, rd1 + 1, o, rfl, rfl, rfl, HSL.out, hg, by have := HR1.out; omega, HR1.out.2.1, HNL.out, HB3.out⟩
          generalize o.isSome = ob at HE ⊢
          clear hg HX HB3 HEN
          go_wp2_with fail
          exact ⟨by rw [show ((n : Int) + 1) = ((n + 1 : Nat) : Int) by omega]; exact HE.out, by simp [intOf]; omega⟩
        · have q1 : decide ((A.nd i2).key < k) = false := decide_eq_false (by omega)
          have q2 : decide ((A.nd i2).key > k) = true := decide_eq_true (by omega)
          have q3 : decide (k < (A.nd i2).key) = true := decide_eq_true (by omega)
          have q4 : ((A.nd i2).key == k) = false := by simp; omega
          rw [if_neg (by omega)] at hg
          clear h
          have HE : Hid (Waybefore I w F (.pointer (some pa)) A rd k false R (rd + (t.ht : Int)) r b U (.bool o.isSome) (.int .u32 ((A.nd i2).left : Int)) (.int .i64 ((n + 1 : Nat) : Int)) w3) := ⟨_, n + 1, l2, rd1 + 1, o, rfl, rfl, rfl, HSL.out, hg, by have := HR1.out; omega, HR1.out.2.1, HNL.out, HB3.out⟩
          generalize o.isSome = ob at HE ⊢
          clear hg HX HB3 HEN
          go_wp2_with fail
          exact ⟨by rw [show ((n : Int) + 1) = ((n + 1 : Nat) : Int) by omega]; exact HE.out, by simp [intOf]; omega⟩
def Wayafter (I : AImpl) (w : World) (F : Nat → Prop) (p : Value) (A : Ar) (rd0 : Int) (k : Int) (eq : Bool) (R : Option En) (top : Int) (r b U : Nat) (fd x c : Value) (wr : World) : Prop :=
  ∃ (i n : Nat) (u : Tr) (rd : Int) (o : Option En), fd = .bool o.isSome ∧ x = .int .u32 (i : Int) ∧ c = .int .i64 (n : Int) ∧ Sub A i u ∧ aft A.nd (k + if eq then 0 else 1) u o = R ∧ rd0 ≤ rd ∧ rd + (u.ht : Int) ≤ top ∧ n + u.size ≤ U ∧ BB I w F p A rd r b o wr
set_option maxHeartbeats 4000000 in
set_option maxRecDepth 100000 in
theorem afterH_any (I : AImpl) {p : Value} {A : Ar} {rd : Int} {F : Nat → Prop} {i : Nat} {t : Tr} {l : List En} (bd : Int) (k : Int) (eq : Bool) (w : World) (hI : I.Is w p A rd F) (hT : TreeAt A i t l) (h0 : 0 ≤ rd) (h1 : rd ≤ 1099511627776) (hbd : (t.ht : Int) ≤ bd) :
    Calls Tryz.prog 143 #[p, .int .u32 (i : Int), .int .i64 k, .bool eq] w (ReadsTo I p A rd F (bd) (enR (aft A.nd (k + if eq then 0 else 1) t none)) w) := by
  obtain ⟨pa, rfl⟩ := I.ptr hI
  have hin : (Tryz.prog.info? 69).map (·.size) = some 2 := by kernel_rfl
  have HINF := Lib.hid hin
  have HU : Hid _ := Lib.hid Tryz.underlying69
  have hb : (t.ht : Int) ≤ bd ∧ t.ht ≤ 65536 := ⟨hbd, hT.bound.2⟩
  clear hbd
  obtain ⟨R, hR⟩ : ∃ R, aft A.nd (k + if eq then 0 else 1) t none = R := ⟨_, rfl⟩
  rw [hR]
  obtain ⟨M, hM⟩ : ∃ M, bd = M := ⟨_, rfl⟩
  rw [hM] at hb ⊢
  obtain ⟨held, hv⟩ := hT.inv
  have hcap := hv.ok.cap2
  have hhd := hT.held
  obtain ⟨U, hUU⟩ : ∃ U, U + A.σ.free.length = A.σ.cap := ⟨A.σ.cap - A.σ.free.length, by omega⟩
  have HUU : Hid (U ≤ 65536 ∧ t.size ≤ U) := ⟨by omega, by omega⟩
  have HOK := Lib.hid hv.ok
  have HRD : Hid (0 ≤ rd ∧ rd ≤ 1099511627776 ∧ (t.ht : Int) ≤ M ∧ t.ht ≤ 65536) := ⟨h0, h1, hb.1, hb.2⟩
  have hbb := BB.start hI
  have HLP : Hid (∀ wx F1, I.Is wx (.pointer (some pa)) A rd F1 → Calls Tryz.prog 94 #[.pointer (some pa)] wx (Calm wx (.int .i64 (U : Int)))) := fun wx F1 h => longest_any I wx h hUU
  have HSUB := Lib.hid hT.sub
  have HRR := Lib.hid hR
  clear hI hT h0 h1 hb hR hM hv hin hcap hhd hUU
  go_enter Tryz.func143, Tryz.ntmps143
  go_upto_region 2 with fail
  generalize (w.alloc (Obj.cells #[.int .i64 0, .int .i64 0] 69)).alloc (Obj.cells #[.int .i64 0, .int .i64 0] 69) = w1 at hbb ⊢
  obtain ⟨r, hr⟩ : ∃ r, w.heap.size = r := ⟨_, rfl⟩
  rw [hr] at hbb ⊢
  generalize hb1 : r + 1 = b at hbb ⊢
  have HBB := Lib.hid hbb
  clear hbb hr hb1
  go_wp2_with fail
  obtain ⟨F1, f1, -, -⟩ := HBB.out.ins.mr.has
  refine (HLP.out w1 F1 f1).mono ?_
  rintro e w1' ⟨rfl, hb1'⟩
  have HW0 : Hid (Wayafter I w F (.pointer (some pa)) A rd k eq R (rd + (t.ht : Int)) r b U (.bool false) (.int .u32 (i : Int)) (.int .i64 0) w1') := ⟨i, 0, t, rd, none, rfl, rfl, rfl, HSUB.out, HRR.out, Int.le_refl _, Int.le_refl _, by have := HUU.out; omega, HBB.out.calm hb1'⟩
  clear f1 hb1' HBB HLP
  go_wp2_with fail
  go_loopw [11, 12, 18] (fun fd x c wr => Wayafter I w F (.pointer (some pa)) A rd k eq R (rd + (t.ht : Int)) r b U fd x c wr) (fun _ _ c _ => U - (intOf c).toNat)
  case atStart => exact HW0.out
  case round =>
    clear HW0
    obtain ⟨i, n, u, rd1, o, rfl, rfl, rfl, hu, hg, hr0, hr1, hn, hB⟩ := hrel
    rcases Nat.lt_or_ge n U with hnu | hnu
    rotate_left
    · have hnu2 : decide ((n : Int) < (U : Int)) = false := decide_eq_false (by omega)
      have hu0 : u = .nil := by
        cases u with
        | nil => rfl
        | node i l r =>
          have : (Tr.node i l r).size = l.size + r.size + 1 := rfl
          omega
      subst hu0
      have ho : o = R := hg
      subst ho
      have he := hB.ends hr0 (bd := M) (by have := HRD.out; omega)
      have hUn : ¬ n < U := Nat.not_lt.2 hnu
      clear hu hg hr0 hr1 hn hnu
      have HE := Lib.hid he
      obtain ⟨c0, c1⟩ := two_ofE hB.hb
      obtain ⟨r0, r1⟩ := two_ofE hB.hr
      have f0 := frozen_of_row _ _ 0 _ _ hB.hr
      have f1 := frozen_of_row _ _ 1 _ _ hB.hr
      have hne := hB.ne
      have hne2 : b ≠ r := fun e => hne e.symm
      obtain ⟨X, hX⟩ : ∃ X, o.elim (0 : Int) (·.key) = X := ⟨_, rfl⟩
      obtain ⟨Y, hY⟩ : ∃ Y, o.elim (0 : Int) (·.val) = Y := ⟨_, rfl⟩
      rw [hX] at c0 HE
      rw [hY] at c1 HE
      clear hB he hX hY
      go_wp2_with fail
      refine bodyPost_ret (results_row_tmp rfl _ _ r 69 #[.int .i64 X, .int .i64 Y] (0, 0) _ rfl HE.out.2 HU.out rfl HINF.out) rfl ?_
      exact HE.out.1
    have hnu2 : decide ((n : Int) < (U : Int)) = true := decide_eq_true (by omega)
    have hnu3 : (n : Int) < (U : Int) := by omega
    have hU4 : (U : Int) ≤ 65536 := by have := HUU.out.1; omega
    have hn0 : (0 : Int) ≤ (n : Int) := by omega
    cases u with
    | nil =>
      obtain rfl : i = 0 := by
        cases hu with
        | nil => rfl
      have ho : o = R := hg
      subst ho
      have HR1 : Hid (rd ≤ rd1 ∧ rd1 ≤ rd + (t.ht : Int)) := ⟨hr0, by have : (Tr.nil.ht : Nat) = 0 := rfl; omega⟩
      have HBB := Lib.hid hB
      clear hu hg hr0 hr1 hB hn
      go_wp2_with fail
      refine (HBB.out.ins.off (by have := HR1.out; have := HRD.out; omega) (by have := HR1.out; have := HRD.out; omega)).mono ?_
      rintro e w2 ⟨rfl, hin2, hk2⟩
      have hB2 := (HBB.out.step hin2 hk2).calm (below_new7 w2 (Obj.cells (ndRow Nd.zero) 81))
      clear hin2 hk2 HBB
      unfold ndRow
      go_upto_region 7 with fail
      rw [show #[Value.int .i64 Nd.zero.key, .int .i64 Nd.zero.val, .int .u32 (Nd.zero.left : Int), .int .u32 (Nd.zero.right : Int), .int .i64 Nd.zero.size, .int .i64 Nd.zero.sum, .int .i64 Nd.zero.mn, .int .i64 Nd.zero.mx] = ndRow Nd.zero from rfl]
      generalize w2.alloc (Obj.cells (ndRow Nd.zero) 81) = w3 at hB2 ⊢
      have hB := hB2
      clear hB2
      have he := hB.ends (rd0 := rd) (bd := M) HR1.out.1 (by have := HR1.out; have := HRD.out; omega)
      generalize w2.heap.size = g
      have HE := Lib.hid he
      obtain ⟨c0, c1⟩ := two_ofE hB.hb
      obtain ⟨r0, r1⟩ := two_ofE hB.hr
      have f0 := frozen_of_row _ _ 0 _ _ hB.hr
      have f1 := frozen_of_row _ _ 1 _ _ hB.hr
      have hne := hB.ne
      have hne2 : b ≠ r := fun e => hne e.symm
      obtain ⟨X, hX⟩ : ∃ X, o.elim (0 : Int) (·.key) = X := ⟨_, rfl⟩
      obtain ⟨Y, hY⟩ : ∃ Y, o.elim (0 : Int) (·.val) = Y := ⟨_, rfl⟩
      rw [hX] at c0 HE
      rw [hY] at c1 HE
      clear hB he hX hY
      go_wp2_with fail
      refine bodyPost_ret (results_row_tmp rfl _ _ r 69 #[.int .i64 X, .int .i64 Y] (0, 0) _ rfl HE.out.2 HU.out rfl HINF.out) rfl ?_
      exact HE.out.1
    | node i2 l2 r2 =>
      obtain ⟨rfl, h0, hon, hsl, hsr⟩ : i2 = i ∧ i ≠ 0 ∧ A.σ.on i = true ∧ Sub A (A.nd i).left l2 ∧ Sub A (A.nd i).right r2 := by
        cases hu with
        | node _ _ _ h1 h2 h3 h4 => exact ⟨rfl, h1, h2, h3, h4⟩
      have hi4 : i2 < 4294967296 := by have := HOK.out.on i2 hon; have := HOK.out.cap2; omega
      have hht : (Tr.node i2 l2 r2).ht = 1 + max l2.ht r2.ht := rfl
      rw [show (Tr.node i2 l2 r2).size = l2.size + r2.size + 1 from rfl] at hn
      have HNL : Hid (n + 1 + l2.size ≤ U) := by show _ ≤ _; omega
      have HNR : Hid (n + 1 + r2.size ≤ U) := by show _ ≤ _; omega
      have HSL := Lib.hid hsl
      have HSR := Lib.hid hsr
      have HON := Lib.hid hon
      have HI4 := Lib.hid hi4
      have HR1 : Hid (rd ≤ rd1 ∧ rd1 + 1 + (l2.ht : Int) ≤ rd + (t.ht : Int) ∧ rd1 + 1 + (r2.ht : Int) ≤ rd + (t.ht : Int)) := ⟨hr0, by omega, by omega⟩
      have HBB := Lib.hid hB
      unfold aft at hg
      have HG := Lib.hid hg
      clear hu hg hr0 hr1 hB h0 hon hsl hsr hi4 hht hn
      go_wp2_with fail
      refine (HBB.out.ins.node (by have := HR1.out; have := HRD.out; omega) (by have := HR1.out; have := HRD.out; omega) HI4.out HON.out).mono ?_
      rintro e w2 ⟨rfl, hin2, hk2⟩
      have HB2 := Lib.hid (HBB.out.step hin2 hk2)
      clear hin2 hk2 HBB
      unfold ndRow
      go_upto_region 7 with fail
      rw [show #[Value.int .i64 (A.nd i2).key, .int .i64 (A.nd i2).val, .int .u32 ((A.nd i2).left : Int), .int .u32 ((A.nd i2).right : Int), .int .i64 (A.nd i2).size, .int .i64 (A.nd i2).sum, .int .i64 (A.nd i2).mn, .int .i64 (A.nd i2).mx] = ndRow (A.nd i2) from rfl]
      have hB3 := HB2.out.calm (below_new7 w2 (Obj.cells (ndRow (A.nd i2)) 81))
      have hbx := heap_alloc_new w2 (Obj.cells (ndRow (A.nd i2)) 81)
      have hgb : b < w2.heap.size := HB2.out.ins.mr.lt (.inr (.inr rfl))
      have hgl : w2.heap.size < (w2.alloc (Obj.cells (ndRow (A.nd i2)) 81)).heap.size := by simp
      generalize w2.alloc (Obj.cells (ndRow (A.nd i2)) 81) = w3 at hB3 hbx hgl ⊢
      generalize w2.heap.size = g at hbx hgb hgl ⊢
      have x0 : w3.cell? ⟨g, 0, none⟩ = some (.int .i64 (A.nd i2).key) := by rw [cell_of_row _ _ _ _ _ _ hbx]; rfl
      have x1 : w3.cell? ⟨g, 1, none⟩ = some (.int .i64 (A.nd i2).val) := by rw [cell_of_row _ _ _ _ _ _ hbx]; rfl
      have x2 : w3.cell? ⟨g, 2, none⟩ = some (.int .u32 ((A.nd i2).left : Int)) := by rw [cell_of_row _ _ _ _ _ _ hbx]; rfl
      have x3 : w3.cell? ⟨g, 3, none⟩ = some (.int .u32 ((A.nd i2).right : Int)) := by rw [cell_of_row _ _ _ _ _ _ hbx]; rfl
      have x4 : w3.cell? ⟨g, 4, none⟩ = some (.int .i64 (A.nd i2).size) := by rw [cell_of_row _ _ _ _ _ _ hbx]; rfl
      have x5 : w3.cell? ⟨g, 5, none⟩ = some (.int .i64 (A.nd i2).sum) := by rw [cell_of_row _ _ _ _ _ _ hbx]; rfl
      have x6 : w3.cell? ⟨g, 6, none⟩ = some (.int .i64 (A.nd i2).mn) := by rw [cell_of_row _ _ _ _ _ _ hbx]; rfl
      have x7 : w3.cell? ⟨g, 7, none⟩ = some (.int .i64 (A.nd i2).mx) := by rw [cell_of_row _ _ _ _ _ _ hbx]; rfl
      have HX := Lib.hid hbx
      have HGL : Hid (b < g ∧ g < w3.heap.size) := ⟨hgb, hgl⟩
      have HB3 := Lib.hid hB3
      have HEN := Lib.hid (entry_any (A.nd i2) w3)
      have hg := HG.out
      clear hB3 hbx hgb hgl HB2 HG
      cases eq with
      | true =>
        rw [show k + (if true = true then 0 else 1) = k + 0 from rfl] at hg
        rcases Int.lt_trichotomy (A.nd i2).key k with h | h | h
        · have q1 : decide ((A.nd i2).key < k) = true := decide_eq_true (by omega)
          have q2 : decide ((A.nd i2).key > k) = false := decide_eq_false (by omega)
          have q3 : decide (k < (A.nd i2).key) = false := decide_eq_false (by omega)
          have q4 : ((A.nd i2).key == k) = false := by simp; omega
          rw [if_pos (by omega)] at hg
          clear h
          have HE : Hid (Wayafter I w F (.pointer (some pa)) A rd k true R (rd + (t.ht : Int)) r b U (.bool o.isSome) (.int .u32 ((A.nd i2).right : Int)) (.int .i64 ((n + 1 : Nat) : Int)) w3) := ⟨_, n + 1, r2, rd1 + 1, o, rfl, rfl, rfl, HSR.out, hg, by have := HR1.out; omega, HR1.out.2.2, HNR.out, HB3.out⟩
          generalize o.isSome = ob at HE ⊢
          clear hg HX HB3 HEN
          go_wp2_with fail
          exact ⟨by rw [show ((n : Int) + 1) = ((n + 1 : Nat) : Int) by omega]; exact HE.out, by simp [intOf]; omega⟩
        · have q1 : decide ((A.nd i2).key < k) = false := decide_eq_false (by omega)
          have q2 : decide ((A.nd i2).key > k) = false := decide_eq_false (by omega)
          have q3 : decide (k < (A.nd i2).key) = false := decide_eq_false (by omega)
          have q4 : ((A.nd i2).key == k) = true := by simp; omega
          rw [if_neg (by omega)] at hg
          clear h
          have HG := Lib.hid hg
          clear hg
          go_wp2_with fail
          refine HEN.out.mono ?_
          rintro e w4 ⟨rfl, hb4⟩
          have hx4 := (hb4.block g HGL.out.2).trans HX.out
          have hB4 := HB3.out.calm hb4
          clear x0 x1 x2 x3 x4 x5 x6 x7 hb4
          have x2 : w4.cell? ⟨g, 2, none⟩ = some (.int .u32 ((A.nd i2).left : Int)) := by rw [cell_of_row _ _ _ _ _ _ hx4]; rfl
          have x3 : w4.cell? ⟨g, 3, none⟩ = some (.int .u32 ((A.nd i2).right : Int)) := by rw [cell_of_row _ _ _ _ _ _ hx4]; rfl
          obtain ⟨c0, c1⟩ := two_ofE hB4.hb
          have f0 := frozen_of_row _ _ 0 _ _ hB4.hb
          have f1 := frozen_of_row _ _ 1 _ _ hB4.hb
          have hgne : g ≠ b := by have := HGL.out; omega
          have hgne2 : b ≠ g := by have := HGL.out; omega
          obtain ⟨X, hX⟩ : ∃ X, o.elim (0 : Int) (·.key) = X := ⟨_, rfl⟩
          obtain ⟨Y, hY⟩ : ∃ Y, o.elim (0 : Int) (·.val) = Y := ⟨_, rfl⟩
          rw [hX] at c0
          rw [hY] at c1
          have HE : Hid (Wayafter I w F (.pointer (some pa)) A rd k true R (rd + (t.ht : Int)) r b U (.bool true) (.int .u32 ((A.nd i2).left : Int)) (.int .i64 ((n + 1 : Nat) : Int)) ((w4.setCell ⟨b, 0, none⟩ (.int .i64 (A.nd i2).key)).setCell ⟨b, 1, none⟩ (.int .i64 (A.nd i2).val))) := ⟨_, n + 1, l2, rd1 + 1, some (ndE (A.nd i2)), rfl, rfl, rfl, HSL.out, HG.out, by have := HR1.out; omega, HR1.out.2.1, HNL.out, hB4.put (ndE (A.nd i2))⟩
          clear hx4 hB4 hX hY HX HB3 HEN HG
          go_wp2_with fail
          exact ⟨by rw [show ((n : Int) + 1) = ((n + 1 : Nat) : Int) by omega]; exact HE.out, by simp [intOf]; omega⟩
        · have q1 : decide ((A.nd i2).key < k) = false := decide_eq_false (by omega)
          have q2 : decide ((A.nd i2).key > k) = true := decide_eq_true (by omega)
          have q3 : decide (k < (A.nd i2).key) = true := decide_eq_true (by omega)
          have q4 : ((A.nd i2).key == k) = false := by simp; omega
          rw [if_neg (by omega)] at hg
          clear h
          have HG := Lib.hid hg
          clear hg
          go_wp2_with fail
          refine HEN.out.mono ?_
          rintro e w4 ⟨rfl, hb4⟩
          have hx4 := (hb4.block g HGL.out.2).trans HX.out
          have hB4 := HB3.out.calm hb4
          clear x0 x1 x2 x3 x4 x5 x6 x7 hb4
          have x2 : w4.cell? ⟨g, 2, none⟩ = some (.int .u32 ((A.nd i2).left : Int)) := by rw [cell_of_row _ _ _ _ _ _ hx4]; rfl
          have x3 : w4.cell? ⟨g, 3, none⟩ = some (.int .u32 ((A.nd i2).right : Int)) := by rw [cell_of_row _ _ _ _ _ _ hx4]; rfl
          obtain ⟨c0, c1⟩ := two_ofE hB4.hb
          have f0 := frozen_of_row _ _ 0 _ _ hB4.hb
          have f1 := frozen_of_row _ _ 1 _ _ hB4.hb
          have hgne : g ≠ b := by have := HGL.out; omega
          have hgne2 : b ≠ g := by have := HGL.out; omega
          obtain ⟨X, hX⟩ : ∃ X, o.elim (0 : Int) (·.key) = X := ⟨_, rfl⟩
          obtain ⟨Y, hY⟩ : ∃ Y, o.elim (0 : Int) (·.val) = Y := ⟨_, rfl⟩
          rw [hX] at c0
          rw [hY] at c1
          have HE : Hid (Wayafter I w F (.pointer (some pa)) A rd k true R (rd + (t.ht : Int)) r b U (.bool true) (.int .u32 ((A.nd i2).left : Int)) (.int .i64 ((n + 1 : Nat) : Int)) ((w4.setCell ⟨b, 0, none⟩ (.int .i64 (A.nd i2).key)).setCell ⟨b, 1, none⟩ (.int .i64 (A.nd i2).val))) := ⟨_, n + 1, l2, rd1 + 1, some (ndE (A.nd i2)), rfl, rfl, rfl, HSL.out, HG.out, by have := HR1.out; omega, HR1.out.2.1, HNL.out, hB4.put (ndE (A.nd i2))⟩
          clear hx4 hB4 hX hY HX HB3 HEN HG
          go_wp2_with fail
          exact ⟨by rw [show ((n : Int) + 1) = ((n + 1 : Nat) : Int) by omega]; exact HE.out, by simp [intOf]; omega⟩
      | false =>
        rw [show k + (if false = true then 0 else 1) = k + 1 from rfl] at hg
        rcases Int.lt_trichotomy (A.nd i2).key k with h | h | h
        · have q1 : decide ((A.nd i2).key < k) = true := decide_eq_true (by omega)
          have q2 : decide ((A.nd i2).key > k) = false := decide_eq_false (by omega)
          have q3 : decide (k < (A.nd i2).key) = false := decide_eq_false (by omega)
          have q4 : ((A.nd i2).key == k) = false := by simp; omega
          rw [if_pos (by omega)] at hg
          clear h
          have HE : Hid (Wayafter I w F (.pointer (some pa)) A rd k false R (rd + (t.ht : Int)) r b U (.bool o.isSome) (.int .u32 ((A.nd i2).right : Int)) (.int .i64 ((n + 1 : Nat) : Int)) w3) := ⟨_, n + 1, r2, rd1 + 1, o, rfl, rfl, rfl, HSR.out, hg, by have := HR1.out; omega, HR1.out.2.2, HNR.out, HB3.out⟩
          generalize o.isSome = ob at HE ⊢
          clear hg HX HB3 HEN
          go_wp2_with fail
          exact ⟨by rw [show ((n : Int) + 1) = ((n + 1 : Nat) : Int) by omega]; exact HE.out, by simp [intOf]; omega⟩
        · have q1 : decide ((A.nd i2).key < k) = false := decide_eq_false (by omega)
          have q2 : decide ((A.nd i2).key > k) = false := decide_eq_false (by omega)
          have q3 : decide (k < (A.nd i2).key) = false := decide_eq_false (by omega)
          have q4 : ((A.nd i2).key == k) = true := by simp; omega
          rw [if_pos (by omega)] at hg
          clear h
          have HE : Hid (Wayafter I w F (.pointer (some pa)) A rd k false R (rd + (t.ht : Int)) r b U (.bool o.isSome) (.int .u32 ((A.nd i2).right : Int)) (.int .i64 ((n + 1 : Nat) : Int)) w3) := ⟨_, n + 1, r2, rd1 + 1, o, rfl, rfl, rfl, HSR.out, hg, by have := HR1.out; omega, HR1.out.2.2, HNR.out, HB3.out⟩
          generalize o.isSome = ob at HE ⊢
          clear hg HX HB3 HEN
          go_wp2_with fail
          exact ⟨by rw [show ((n : Int) + 1) = ((n + 1 : Nat) : Int) by omega]; exact HE.out, by simp [intOf]; omega⟩
        · have q1 : decide ((A.nd i2).key < k) = false := decide_eq_false (by omega)
          have q2 : decide ((A.nd i2).key > k) = true := decide_eq_true (by omega)
          have q3 : decide (k < (A.nd i2).key) = true := decide_eq_true (by omega)
          have q4 : ((A.nd i2).key == k) = false := by simp; omega
          rw [if_neg (by omega)] at hg
          clear h
          have HG := Lib.hid hg
          clear hg
          go_wp2_with fail
          refine HEN.out.mono ?_
          rintro e w4 ⟨rfl, hb4⟩
          have hx4 := (hb4.block g HGL.out.2).trans HX.out
          have hB4 := HB3.out.calm hb4
          clear x0 x1 x2 x3 x4 x5 x6 x7 hb4
          have x2 : w4.cell? ⟨g, 2, none⟩ = some (.int .u32 ((A.nd i2).left : Int)) := by rw [cell_of_row _ _ _ _ _ _ hx4]; rfl
          have x3 : w4.cell? ⟨g, 3, none⟩ = some (.int .u32 ((A.nd i2).right : Int)) := by rw [cell_of_row _ _ _ _ _ _ hx4]; rfl
          obtain ⟨c0, c1⟩ := two_ofE hB4.hb
          have f0 := frozen_of_row _ _ 0 _ _ hB4.hb
          have f1 := frozen_of_row _ _ 1 _ _ hB4.hb
          have hgne : g ≠ b := by have := HGL.out; omega
          have hgne2 : b ≠ g := by have := HGL.out; omega
          obtain ⟨X, hX⟩ : ∃ X, o.elim (0 : Int) (·.key) = X := ⟨_, rfl⟩
          obtain ⟨Y, hY⟩ : ∃ Y, o.elim (0 : Int) (·.val) = Y := ⟨_, rfl⟩
          rw [hX] at c0
          rw [hY] at c1
          have HE : Hid (Wayafter I w F (.pointer (some pa)) A rd k false R (rd + (t.ht : Int)) r b U (.bool true) (.int .u32 ((A.nd i2).left : Int)) (.int .i64 ((n + 1 : Nat) : Int)) ((w4.setCell ⟨b, 0, none⟩ (.int .i64 (A.nd i2).key)).setCell ⟨b, 1, none⟩ (.int .i64 (A.nd i2).val))) := ⟨_, n + 1, l2, rd1 + 1, some (ndE (A.nd i2)), rfl, rfl, rfl, HSL.out, HG.out, by have := HR1.out; omega, HR1.out.2.1, HNL.out, hB4.put (ndE (A.nd i2))⟩
          clear hx4 hB4 hX hY HX HB3 HEN HG
          go_wp2_with fail
          exact ⟨by rw [show ((n : Int) + 1) = ((n + 1 : Nat) : Int) by omega]; exact HE.out, by simp [intOf]; omega⟩
section
variable {I : AImpl} {w wr : World} {F : Nat → Prop} {p : Value} {A : Ar} {rd : Int} {rs : List Row} {bs : List (Nat × Obj)}
theorem Ins.nilrow (h : Ins I w F p A rd rs bs wr) (e : TypeId) (s : Nat) : Ins I w F p A rd (⟨e, s, .slice none 0 0, 0, []⟩ :: rs) bs wr := by
  have hno : ∀ k, Value.ownBlock (.slice none 0 0) ≠ some k := fun k hk => by simp [Value.ownBlock] at hk
  refine ⟨h.mr.less fun k hk => ?_, h.kp, fun r hr => ?_, h.boxes, List.pairwise_cons.2 ⟨fun r hr k hk => absurd hk (hno k), h.rr⟩, h.bb, fun r hr b hb => ?_⟩
  · rcases hk with hk | ⟨r, hr, hk⟩ | hk
    · exact .inl hk
    · rcases List.mem_cons.1 hr with rfl | hr
      · exact absurd hk (hno k)
      · exact .inr (.inl ⟨r, hr, hk⟩)
    · exact .inr (.inr hk)
  · rcases List.mem_cons.1 hr with rfl | hr
    · exact World.ownsRow_nil _ _ _ _
    · exact h.rows r hr
  · rcases List.mem_cons.1 hr with rfl | hr
    · exact hno b.1
    · exact h.rb r hr b hb
/-- the call ends with a row of entries -/
theorem Ins.ensRes {rd0 bd : Int} {va : Option Addr} {n vc : Nat} {P : List En} (h : Ins I w F p A rd (⟨69, 2, .slice va n vc, n, ensV P⟩ :: rs) bs wr) (hn : P.length = n) (h0 : rd0 ≤ rd) (h1 : rd ≤ rd0 + bd) :
    EnsRes I p A rd0 F bd P w (.returned (.slice va n vc)) wr := by
  subst hn
  obtain ⟨F', f1, f2, f3⟩ := h.mr.has
  refine ⟨F', rd, va, vc, rfl, ⟨h.mr.below.os, h.mr.below.tape, h.mr.below.output, h.mr.below.size, fun k hlt hF => h.kp k ⟨hlt, hF⟩, fun k hF' => ?_⟩, f1, h0, h1, h.rows ⟨69, 2, .slice va P.length vc, P.length, ensV P⟩ (List.Mem.head _), fun g hg => (f3 g (.inr (.inl ⟨_, List.Mem.head _, hg⟩))).2⟩
  by_cases hlt : k < w.heap.size
  · by_cases hF : F k
    · exact .inl hF
    · exact absurd hF' (f3 k (.inl ⟨hlt, hF⟩)).2
  · exact .inr (by omega)
theorem Ins.capacity (h : Ins I w F p A rd rs bs wr) : Calls Tryz.prog 81 #[p] wr fun e w' => e = .returned (.int .i64 (A.σ.cap : Int)) ∧ Ins I w F p A rd rs bs w' := by
  obtain ⟨F1, f1, _⟩ := h.mr.has
  exact (I.capacity p A rd F1 wr f1).mono fun e w1 ⟨h3, q, h4⟩ => ⟨h3, by subst h4; exact h.calm (below_drewN (Below.refl _ _) _)⟩
end
set_option maxHeartbeats 16000000 in
set_option maxRecDepth 100000 in
theorem rangeB_any (I : AImpl) {p : Value} {A : Ar} {rd : Int} {F : Nat → Prop} {i : Nat} {t : Tr} {l : List En} (lo hi lim : Int) (w : World) (hI : I.Is w p A rd F) (hT : TreeAt A i t l) (h0 : 0 ≤ rd) (h1 : rd ≤ 1099509100000) :
    Calls Tryz.prog 59 #[p, .int .u32 (i : Int), .int .i64 lo, .int .i64 hi, .int .i64 lim] w (EnsRes I p A rd F (2 * (xh l.length : Int) + ((firstE (betE l lo hi) lim).length : Int)) (firstE (betE l lo hi) lim) w) := by
  obtain ⟨pa, rfl⟩ := I.ptr hI
  have HS0 := Lib.hid (Ins.start hI)
  obtain ⟨held, hv⟩ := hT.inv
  have hcap := hv.ok.cap2
  have hhd := hT.held
  obtain ⟨U, hU⟩ : ∃ U, U + A.σ.free.length = A.σ.cap := ⟨A.σ.cap - A.σ.free.length, by omega⟩
  have hw64 : IntKind.i64.wrap ((A.σ.cap : Int) - (A.σ.free.length : Int)) = (U : Int) := by rw [IntKind.wrap_i64]; omega
  have hlen : l.length ≤ 2147483647 := by have := hT.size; omega
  have hht := hT.ht hlen
  have hgot : gotC A.nd lo hi t (lim - ((0 : Nat) : Int)).toNat = firstE (betE l lo hi) lim := by
    rw [gotC_spec A.nd lo hi t _ (by rw [hT.ents]; exact hT.up), hT.ents, show lim - ((0 : Nat) : Int) = lim by omega]
    rfl
  have hvis := vis_all A.nd lo hi t (lim - ((0 : Nat) : Int)).toNat (by rw [hT.ents]; exact hT.up)
  have hvs := visC_size A.nd lo hi t (lim - ((0 : Nat) : Int)).toNat
  rw [hgot] at hvis
  obtain ⟨P, hP⟩ : ∃ P, firstE (betE l lo hi) lim = P := ⟨_, rfl⟩
  rw [hP] at hgot hvis ⊢
  have HV : Hid (A.σ.Ok ∧ Sub A i t ∧ t.size ≤ U ∧ U ≤ 65536) := ⟨hv.ok, hT.sub, by omega, by omega⟩
  have HRD : Hid (0 ≤ rd ∧ rd ≤ 1099509100000) := ⟨h0, h1⟩
  have HG := Lib.hid hgot
  have HVI : Hid ((visC A.nd lo hi t (lim - ((0 : Nat) : Int)).toNat : Int) ≤ 2 * (xh l.length : Int) + (P.length : Int)) := by show _ ≤ _; omega
  clear hI hT hv hcap hhd hU hlen hht hgot hvis hvs hP h0 h1
  go_enter Tryz.func59, Tryz.ntmps59
  go_wp2_with fail
  refine HS0.out.capacity.mono ?_
  rintro e w1 ⟨rfl, hs1⟩
  have HS1 := Lib.hid hs1
  clear hs1 HS0
  go_wp2_with fail
  refine HS1.out.free.mono ?_
  rintro e w2 ⟨rfl, hs2⟩
  have hs3 := (hs2.nilrow 69 2).box #[.pointer (some pa), .int .i64 lo, .int .i64 hi, .int .i64 lim, .int .i64 (U : Int), .slice none 0 0] 132
  clear hs2 HS1
  go_upto_region 2 with fail
  generalize w2.alloc (Obj.cells #[.pointer (some pa), .int .i64 lo, .int .i64 hi, .int .i64 lim, .int .i64 (U : Int), .slice none 0 0] 132) = w3 at hs3 ⊢
  generalize w2.heap.size = g at hs3 ⊢
  have HS3 : Hid (ColS I w F (.pointer (some pa)) A [] [] g lo hi lim rd U 0 [] w3) := ⟨rfl, none, 0, hs3⟩
  clear hs3
  go_wp2_with fail
  refine (col_all I t w3 HS3.out HV.out.1 HV.out.2.1 HV.out.2.2.1 HV.out.2.2.2 (by have := HV.out; omega) HRD.out.1 (by have := HRD.out; have := HV.out; omega)).mono ?_
  rintro e w4 ⟨rfl, n', hn', va, vc, hs4⟩
  rw [HG.out, List.nil_append] at hs4 hn'
  have HQ : Hid (EnsRes I (.pointer (some pa)) A rd F (2 * (xh l.length : Int) + (P.length : Int)) P w (.returned (.slice va n' vc)) w4) := hs4.ensRes hn' (by omega) (by have := HVI.out; omega)
  unfold colA at hs4
  obtain ⟨⟨c0, c1, c2, c3, c4, c5⟩, f4, f5⟩ := cells6_of (hs4.boxes _ (List.Mem.head _)).2
  clear hs4 hn' HS3
  go_wp2_with fail
  go_ret
  exact HQ.out
theorem EnsRes.more {I : AImpl} {p : Value} {A : Ar} {rd : Int} {F : Nat → Prop} {bd bd' : Int} {P : List En} {w : World} {e : Ending} {w' : World} (h : EnsRes I p A rd F bd P w e w') (hb : bd ≤ bd') : EnsRes I p A rd F bd' P w e w' := by
  obtain ⟨F', rd', a, c, h1, h2, h3, h4, h5, h6⟩ := h
  exact ⟨F', rd', a, c, h1, h2, h3, h4, by omega, h6⟩
theorem bet_all64 {l : List En} (hw : WfL l) : betE l (-9223372036854775808) 9223372036854775807 = l := bet_all_of fun x hx => (hw x hx).1
set_option maxHeartbeats 4000000 in
set_option maxRecDepth 100000 in
theorem listB_any (I : AImpl) {p : Value} {A : Ar} {rd : Int} {F : Nat → Prop} {i : Nat} {t : Tr} {l : List En} (w : World) (hI : I.Is w p A rd F) (hT : TreeAt A i t l) (hw : WfL l) (h0 : 0 ≤ rd) (h1 : rd ≤ 1099509000000) :
    Calls Tryz.prog 29 #[p, .int .u32 (i : Int)] w (EnsRes I p A rd F (bulkBd l.length l.length) l w) := by
  obtain ⟨pa, rfl⟩ := I.ptr hI
  have hlen : l.length ≤ 65536 := by
    obtain ⟨held, hv⟩ := hT.inv
    have := hv.ok.cap2
    have := hT.held
    have := hT.size
    omega
  have e : firstE (betE l (-9223372036854775808) 9223372036854775807) 9223372036854775807 = l := by
    rw [bet_all64 hw]
    exact List.take_of_length_le (by omega)
  have HC := Lib.hid (rangeB_any I (-9223372036854775808) 9223372036854775807 9223372036854775807 w hI hT h0 (by omega))
  rw [e] at HC
  have HB : Hid (2 * (xh l.length : Int) + (l.length : Int) ≤ bulkBd l.length l.length) := by show _ ≤ _; unfold bulkBd; omega
  clear hI hT hw h0 h1 hlen e
  go_enter Tryz.func29, Tryz.ntmps29
  go_wp2_with fail
  refine HC.out.mono ?_
  rintro e w1 h
  obtain ⟨F', rd', a, c, rfl, h2, h3, h4, h5, h6⟩ := h
  have HQ : Hid (EnsRes I (.pointer (some pa)) A rd F (bulkBd l.length l.length) l w (.returned (.slice a l.length c)) w1) := ⟨F', rd', a, c, rfl, h2, h3, h4, by have := HB.out; omega, h6⟩
  clear h2 h3 h4 h5 h6 HC
  go_wp2_with fail
  go_ret
  exact HQ.out
theorem up_adj : ∀ {l : List En}, (∀ (j : Nat) (x y : En), l[j]? = some x → l[j + 1]? = some y → x.key < y.key) → Up l
  | [], _ => List.Pairwise.nil
  | [x], _ => List.pairwise_singleton _ _
  | x :: y :: t, h => by
    have ih : Up (y :: t) := up_adj fun j a b ha hb => h (j + 1) a b ha hb
    have hxy := h 0 x y rfl rfl
    refine List.pairwise_cons.2 ⟨fun z hz => ?_, ih⟩
    rcases List.mem_cons.1 hz with rfl | hz
    · exact hxy
    · have := (List.pairwise_cons.1 ih).1 z hz
      omega
theorem adj_up {l : List En} (h : Up l) {j : Nat} {x y : En} (hx : l[j]? = some x) (hy : l[j + 1]? = some y) : x.key < y.key := by
  obtain ⟨h1, rfl⟩ := List.getElem?_eq_some_iff.1 hx
  obtain ⟨h2, rfl⟩ := List.getElem?_eq_some_iff.1 hy
  exact List.pairwise_iff_getElem.1 h j (j + 1) h1 h2 (by omega)
def AscTo (l : List En) (k : Nat) : Prop := ∀ (j : Nat) (x y : En), j + 1 < k → l[j]? = some x → l[j + 1]? = some y → x.key < y.key
section
variable {I : AImpl} {w wr : World} {F F1 : Nat → Prop} {p : Value} {A : Ar} {rd : Int} {rs : List Row} {bs : List (Nat × Obj)} {a : Option Addr} {c : Nat} {P : List Nat}
/-- a call that alters the arena, and what is known of the arena's place -/
theorem Ins.mutO {f : FuncId} {args : Array Value} {Q : Ending → Ar → Int → Prop} (h : Ins I w F p A rd rs bs wr) (hc : ∀ F1, I.Is wr p A rd F1 → (∀ k, (OldI w F k ∨ SG rs bs k) → k < wr.heap.size ∧ ¬ F1 k) → Calls Tryz.prog f args wr (Mut I p F1 Q wr)) :
    Calls Tryz.prog f args wr fun e w' => ∃ A' rd', Q e A' rd' ∧ Ins I w F p A' rd' rs bs w' := by
  obtain ⟨F1, f1, f2, f3⟩ := h.mr.has
  refine (hc F1 f1 f3).mono ?_
  rintro e w1 ⟨F', A', rd', hal, hI, hq⟩
  have hst := h.mr.stepA f2 f3 hal hI
  exact ⟨A', rd', hq, hst.1, fun k hk => (hst.2 k (.inl hk)).trans (h.kp k hk), fun r hr => row_keep (h.rows r hr) fun k hk' => hst.2 k (.inr (.inl ⟨r, hr, hk'⟩)), fun b hb => ⟨(h.boxes b hb).1, (hst.2 b.1 (.inr (.inr ⟨b, hb, rfl⟩))).trans (h.boxes b hb).2⟩, h.rr, h.bb, h.rb⟩
end
set_option maxHeartbeats 2000000 in
set_option maxRecDepth 100000 in
theorem ascB_any {w : World} {a : Option Addr} {n c : Nat} {l : List En} (h : EnsAt w a l) (hn : l.length = n) (hl : n ≤ 1000000) {v : Bool} (hv : v = true ↔ Up l) :
    Calls Tryz.prog 61 #[.slice a n c] w (Calm w (.bool v)) := by
  have hni : (n : Int) ≤ 1000000 := by omega
  have HH := Lib.hid h
  have HN := Lib.hid hn
  have HV := Lib.hid hv
  clear h hn hv
  go_enter Tryz.func61, Tryz.ntmps61
  go_wp2_with fail
  go_loopw [3] (fun i wr => ∃ k : Nat, 1 ≤ k ∧ k ≤ n + 1 ∧ i = .int .i64 (k : Int) ∧ AscTo l k ∧ ∃ q, wr = w.drewN q) (fun i _ => n + 1 - (intOf i).toNat)
  case atStart => exact ⟨1, Nat.le_refl _, by omega, rfl, fun j x y hj => by omega, 0, rfl⟩
  case round =>
    obtain ⟨k, hk1, hk, rfl, hA, q, rfl⟩ := hrel
    have HA := Lib.hid hA
    have hk1i : (1 : Int) ≤ (k : Int) := by omega
    clear hA
    by_cases hlt : k < n
    · have hki : (k : Int) < (n : Int) := by omega
      have hk0 : (0 : Int) ≤ (k : Int) := by omega
      obtain ⟨j, hj⟩ : ∃ j, k = j + 1 := ⟨k - 1, by omega⟩
      obtain ⟨y, hy⟩ : ∃ e, l[k]? = some e := ⟨_, List.getElem?_eq_getElem (by have := HN.out; omega)⟩
      obtain ⟨x, hx⟩ : ∃ e, l[j]? = some e := ⟨_, List.getElem?_eq_getElem (by have := HN.out; omega)⟩
      obtain ⟨g, off, rfl, hb, c0, c1⟩ := HH.out.at hy
      obtain ⟨g', off', hgg, hb', d0, d1⟩ := HH.out.at hx
      obtain ⟨rfl, rfl⟩ : g = g' ∧ off = off' := by simpa using hgg
      have hji : IntKind.i64.wrap ((k : Int) - 1) = (j : Int) := by rw [IntKind.wrap_i64]; omega
      have hj0 : (0 : Int) ≤ (j : Int) := by omega
      have hjn : (j : Int) < (n : Int) := by omega
      have HXY : Hid (l[k]? = some y ∧ l[j]? = some x ∧ k = j + 1) := ⟨hy, hx, hj⟩
      have HLT := Lib.hid hlt
      clear hb hb' hgg hy hx hlt c1 d1 hj
      by_cases hle : y.key ≤ x.key
      · have q1 : decide (y.key ≤ x.key) = true := decide_eq_true hle
        have HR : Hid (v = false) := by
          show _ = _
          cases hv : v with
          | false => rfl
          | true =>
            have h1 := HXY.out.1
            rw [HXY.out.2.2] at h1
            have := adj_up (HV.out.1 hv) HXY.out.2.1 h1
            omega
        clear hle
        go_upto_region 4 with fail
        go_quiet (fail)
        rename Nat => d
        go_wp2_with fail
        go_ret
        exact ⟨by rw [HR.out]; rfl, below_drewN (below_drewN (Below.refl _ _) _) _⟩
      · have q1 : decide (y.key ≤ x.key) = false := decide_eq_false hle
        have HAA : Hid (AscTo l (k + 1)) := fun j' x' y' hj' hx' hy' => by
          by_cases h1 : j' + 1 < k
          · exact HA.out j' x' y' h1 hx' hy'
          · have e1 : j' = j := by have := HXY.out.2.2; omega
            subst e1
            have h2 := HXY.out.1
            rw [HXY.out.2.2] at h2
            rw [HXY.out.2.1] at hx'
            rw [h2] at hy'
            cases hx'
            cases hy'
            omega
        clear hle
        go_upto_region 4 with fail
        go_quiet (fail)
        rename Nat => d
        go_wp2_with fail
        exact ⟨⟨k + 1, by omega, by have := HLT.out; omega, by go_num, HAA.out, _, rfl⟩, by have := HLT.out; simp [intOf]; omega⟩
    · have hki : ¬ (k : Int) < (n : Int) := by omega
      have HR : Hid (v = true) := HV.out.2 (up_adj fun j x y hx hy => HA.out j x y (by have := (List.getElem?_eq_some_iff.1 hy).1; have := HN.out; omega) hx hy)
      clear hlt
      go_wp2_with fail
      go_ret
      exact ⟨by rw [HR.out]; rfl, below_drewN (Below.refl _ _) _⟩
theorem EnsAt.ins {I : AImpl} {w wr : World} {F : Nat → Prop} {p : Value} {A : Ar} {rd : Int} {rs : List Row} {bs : List (Nat × Obj)} {b off : Nat} {l : List En} (h : EnsAt w (some ⟨b, off, none⟩) l) (hF : ¬ F b) (hb : b < w.heap.size) (hi : Ins I w F p A rd rs bs wr) : EnsAt wr (some ⟨b, off, none⟩) l := by
  have hk := hi.kp b ⟨hb, hF⟩
  have hlt : b < wr.heap.size := Nat.lt_of_lt_of_le hb hi.size
  refine ⟨fun j e he => ?_, h.wf⟩
  obtain ⟨b', off', hab, _, h1, h2⟩ := h.cell j e he
  simp at hab
  obtain ⟨rfl, rfl⟩ := hab
  exact ⟨b, off, rfl, hlt, by rw [← h1]; exact World.cell?_of_block (a := ⟨b, off + j * 2, none⟩) hk, by rw [← h2]; exact World.cell?_of_block (a := ⟨b, off + j * 2 + 1, none⟩) hk⟩
theorem idx_okB {A : Ar} (h : A.σ.Ok) {x : Nat} (hx : A.Idx x) : x < 4294967296 := by
  rcases hx with hx | hx
  · omega
  · have := h.on x hx; have := h.cap2; omega
/-- what build leaves -/
def BldQ (A : Ar) (rd : Int) (held : Nat → Nat) (l : List En) (en : Ending) (B : Ar) (rd' : Int) : Prop :=
  rd' = rd ∧ ∃ (j : Nat) (t : Tr), en = .returned (.int .u32 (j : Int)) ∧ Planted A held l B j t ∧ t.mid ∧ ∀ i, A.σ.on i = true → B.σ.gen i = A.σ.gen i
structure BldP (I : AImpl) (D : Nat) (w : World) (p : Value) (A : Ar) (rd : Int) (F : Nat → Prop) (held : Nat → Nat) (a : Option Addr) (n c : Nat) (l : List En) : Prop where
  is : I.Is w p A rd F
  inv : A.Inv [] held
  agg : A.Agg
  few : ∀ j, held j + D + 1 ≤ 1048576
  ens : EnsAt w a l
  len : l.length = n
  small : n < 2 ^ D
  off : n ≠ 0 → ∀ b o, a = some ⟨b, o, none⟩ → ¬ F b
  cap : n ≤ c ∧ c ≤ maxLen
  room : n ≤ A.σ.free.length
def BldOk (I : AImpl) (D : Nat) : Prop := ∀ {p : Value} {A : Ar} {rd : Int} {F : Nat → Prop} {held : Nat → Nat} {a : Option Addr} {n c : Nat} {l : List En} (w : World), BldP I D w p A rd F held a n c l →
    Calls Tryz.prog 62 #[p, .slice a n c] w (Mut I p F (BldQ A rd held l) w)
theorem bld_node {A A1 A2 : Ar} {held : Nat → Nat} {l1 l2 : List En} {e : En} {il ir i : Nat} {tl tr : Tr} {fr : List Nat} (h1 : Planted A held l1 A1 il tl) (h2 : Planted A1 (pls held il) l2 A2 ir tr) (hf : A2.σ.free = i :: fr) (hw : i64R e.key ∧ i64R e.val)
    (hn : l1.length = (l1.length + l2.length + 1) / 2) (hs : l1.length + l2.length + 1 ≤ 65536) (hm1 : tl.mid) (hm2 : tr.mid) (hg1 : ∀ i, A.σ.on i = true → A1.σ.gen i = A.σ.gen i) (hg2 : ∀ i, A1.σ.on i = true → A2.σ.gen i = A1.σ.gen i) :
    (Planted A held (l1 ++ e :: l2) (A2.over i fr (A2.node e.key e.val il ir)) i (.node i tl tr) ∧ (A2.node e.key e.val il ir).size ≤ 2147483647) ∧ (Tr.node i tl tr).mid ∧ ∀ j, A.σ.on j = true → (A2.over i fr (A2.node e.key e.val il ir)).σ.gen j = A.σ.gen j := by
  have hb : Proofs.YtfihklpofmcfgaaGreat.bal (l1.length : Int) (l2.length : Int) = true := by
    exact decide_eq_true ⟨by omega, by omega, by omega, by omega, by omega, by omega⟩
  have hN := Planted.node (e := e) h1 h2 hf rfl hb (by omega)
  refine ⟨hN, ⟨by rw [h1.size, h2.size]; exact hn, hm1, hm2⟩, fun j hj => ?_⟩
  have hj1 := h1.kept.on j hj
  have hj2 := h2.kept.on j hj1
  have hi := (h2.inv.ok.free i).1 (by rw [hf]; simp)
  have hne : j ≠ i := fun q => by subst q; rw [hi.2.2] at hj2; cases hj2
  have ho := over_ok rfl h2.inv h2.agg hf (h1.sub.kept h2.kept).idx h2.sub.idx hN.2
  rw [ho.2.2.2.1, ← hg1 j hj, ← hg2 j hj1]
  unfold St.take
  simp [hne]
set_option maxHeartbeats 16000000 in
set_option maxRecDepth 100000 in
theorem bld_step (I : AImpl) {D : Nat} (ih : BldOk I D) : BldOk I (D + 1) := by
  intro p A rd F held a n c l w hP
  obtain ⟨pa, rfl⟩ := I.ptr hP.is
  have HS0 := Lib.hid (Ins.start hP.is)
  by_cases h0 : n = 0
  · have hl : l = [] := List.eq_nil_of_length_eq_zero (by have := hP.len; omega)
    have HQ : Hid (BldQ A rd held l (.returned (.int .u32 ((0 : Nat) : Int))) A rd) := ⟨rfl, 0, .nil, rfl, by rw [hl]; exact .nil hP.inv hP.agg, trivial, fun _ _ => rfl⟩
    subst h0
    have HE := Lib.hid HS0.out.ends
    clear hP ih hl HS0
    go_enter Tryz.func62, Tryz.ntmps62
    go_wp2_with fail
    go_ret
    obtain ⟨F', hal, hI⟩ := HE.out
    exact ⟨F', A, rd, hal, hI, HQ.out⟩
  obtain ⟨b, off, rfl⟩ : ∃ b off, a = some ⟨b, off, none⟩ := by
    obtain ⟨b, off, h1, _⟩ := hP.ens.cell 0 (l[0]'(by have := hP.len; omega)) (List.getElem?_eq_getElem _)
    exact ⟨b, off, h1⟩
  have hlb : b < w.heap.size := by
    obtain ⟨b', off', h1, h2, _⟩ := hP.ens.cell 0 (l[0]'(by have := hP.len; omega)) (List.getElem?_eq_getElem _)
    simp at h1
    rw [h1.1]; exact h2
  obtain ⟨k, hk⟩ : ∃ k, n / 2 = k := ⟨_, rfl⟩
  obtain ⟨en, hen⟩ : ∃ en, l[k]? = some en := ⟨_, List.getElem?_eq_getElem (by have := hP.len; omega)⟩
  have HEN : Hid (l[k]? = some en ∧ i64R en.key ∧ i64R en.val) := ⟨hen, hP.ens.wf en (List.mem_of_getElem? hen)⟩
  have hl6 : n ≤ 65536 := by have := hP.room; have := hP.inv.ok.len; have := hP.inv.ok.cap2; omega
  have HIH : Hid (BldOk I D) := @ih
  have HP : Hid (A.Inv [] held ∧ A.Agg ∧ (∀ j, held j + (D + 1) + 1 ≤ 1048576) ∧ n ≤ A.σ.free.length) := ⟨hP.inv, hP.agg, hP.few, hP.room⟩
  have HP2 : Hid (n < 2 * 2 ^ D ∧ n ≤ 65536) := ⟨by have := hP.small; rw [Nat.pow_succ] at this; omega, hl6⟩
  have HE := Lib.hid hP.ens
  have HFB : Hid (¬ F b ∧ b < w.heap.size) := ⟨hP.off h0 b off rfl, hlb⟩
  have HK : Hid ((l.take k).length = k ∧ (l.drop (k + 1)).length = n - (k + 1) ∧ k + 1 ≤ n ∧ n ≤ 2 * k + 1 ∧ 2 * k ≤ n) := ⟨by rw [List.length_take]; have := hP.len; omega, by rw [List.length_drop]; have := hP.len; omega, by omega, by omega, by omega⟩
  have HC : Hid (n ≤ c ∧ c ≤ maxLen) := hP.cap
  have hne : ((n : Int) == 0) = false := by simp; exact h0
  have hne1 : ¬ n = 0 := h0
  have hne2 : decide ((n : Int) = 0) = false := decide_eq_false (by omega)
  have hq : (n : Int).tdiv 2 = (k : Int) := by rw [Int.tdiv_eq_ediv_of_nonneg (by omega)]; omega
  have hqw : IntKind.i64.wrap (k : Int) = (k : Int) := by rw [IntKind.wrap_i64]; omega
  have hqw2 : IntKind.i64.wrap ((k : Int) + 1) = ((k + 1 : Nat) : Int) := by rw [IntKind.wrap_i64]; omega
  have hc1 := hP.cap
  have hki : (k : Int) ≤ (c : Int) := by omega
  have hkn : (k : Int) < (n : Int) := by omega
  have hk0 : (0 : Int) ≤ (k : Int) := by omega
  have hk1 : ((k + 1 : Nat) : Int) ≤ (n : Int) := by omega
  have hk2 : (0 : Int) ≤ (k : Int) + 1 := by omega
  have hk3 : (k : Int) + 1 ≤ (n : Int) := by omega
  clear hP ih hlb hen hl6 hk hc1
  go_enter Tryz.func62, Tryz.ntmps62
  go_upto_region 4 with fail
  have hsd := HS0.out.calm (Below.refl _ _).drew
  clear HS0
  refine anyG_begin (S := (fun _ => True)) (z := 9999) (by kernel_rfl) trivial (fun hHeld => ?_)
  refine anyG_tk (v := ?_) 0 16 rfl (by kernel_rfl) (Or.inl ⟨by rfl, ?_⟩) (by assumption) ?_
  rotate_left
  · intro w hSw; (try dsimp only at hSw); go_simp; try with_reducible rfl
  (try simp only [Act.put, put_s])
  refine anyG_tk (v := ?_) 1 17 rfl (by kernel_rfl) (Or.inl ⟨by rfl, ?_⟩) (by assumption) ?_
  rotate_left
  · intro w hSw; (try dsimp only at hSw); go_simp; try with_reducible rfl
  (try simp only [Act.put, put_s])
  refine anyG_tk (v := ?_) 2 18 rfl (by kernel_rfl) (Or.inl ⟨by rfl, ?_⟩) (by assumption) ?_
  rotate_left
  · intro w hSw; (try dsimp only at hSw); go_simp; try with_reducible rfl
  (try simp only [Act.put, put_s])
  refine anyG_tk (v := ?_) 3 19 rfl (by kernel_rfl) (Or.inl ⟨by rfl, ?_⟩) (by assumption) ?_
  rotate_left
  · intro w hSw; (try dsimp only at hSw); go_simp; try with_reducible rfl
  (try simp only [Act.put, put_s])
  refine anyG_tk (v := ?_) 5 21 rfl (by kernel_rfl) (Or.inl ⟨by rfl, ?_⟩) (by assumption) ?_
  rotate_left
  · intro w hSw; (try dsimp only at hSw); go_simp; try with_reducible rfl
  (try simp only [Act.put, put_s])
  refine anyG_tk (v := ?_) 6 22 rfl (by kernel_rfl) (Or.inl ⟨by rfl, ?_⟩) (by assumption) ?_
  rotate_left
  · intro w hSw; (try dsimp only at hSw); go_simp; try with_reducible rfl
  (try simp only [Act.put, put_s])
  refine anyG_tk (v := ?_) 7 23 rfl (by kernel_rfl) (Or.inl ⟨by rfl, ?_⟩) (by assumption) ?_
  rotate_left
  · intro w hSw; (try dsimp only at hSw); go_simp; try with_reducible rfl
  (try simp only [Act.put, put_s])
  refine anyG_tk (v := ?_) 8 24 rfl (by kernel_rfl) (Or.inl ⟨by rfl, ?_⟩) (by assumption) ?_
  rotate_left
  · intro w hSw; (try dsimp only at hSw); go_simp; try with_reducible rfl
  (try simp only [Act.put, put_s])
  refine anyG_tk (v := ?_) 9 25 rfl (by kernel_rfl) (Or.inl ⟨by rfl, ?_⟩) (by assumption) ?_
  rotate_left
  · intro w hSw; (try dsimp only at hSw); go_simp; try with_reducible rfl
  (try simp only [Act.put, put_s])
  refine anyG_one (k := 4) (o := _) (by kernel_rfl) rfl (fun KT hKT => ?_)
  go_simp
  go_at_call 62
  obtain ⟨ap, hap⟩ : ∃ ap, (if c = k + 1 then some (⟨b, off, none⟩ : Addr) else some ⟨b, off + (k + 1) * 2, none⟩) = ap := ⟨_, rfl⟩
  rw [hap]
  have HAP := Lib.hid hap
  clear hap
  refine (hsd.mutO fun F1 hI1 hF1 => HIH.out _ ⟨hI1, HP.out.1, HP.out.2.1, fun j => by have := HP.out.2.2.1 j; omega, (HE.out.ins HFB.out.1 HFB.out.2 hsd).take k, HK.out.1, by have := HK.out; have := HP2.out; omega, fun _ b' o' q => by cases q; exact (hF1 _ (.inl ⟨HFB.out.2, HFB.out.1⟩)).2, ⟨by have := HK.out; have := HC.out; omega, HC.out.2⟩, by have := HK.out; have := HP.out; omega⟩).mono ?_
  rintro eA wA ⟨A1, rd1, ⟨rfl, il, tl, rfl, hP1, hM1, hG1⟩, hsA⟩
  try go_wp2_with fail
  refine hKT.out _ _ trivial (fun hHeld => ?_)
  clear hKT KT
  (try simp only [Act.put, put_s])
  refine anyG_one (k := 10) (o := _) (by kernel_rfl) rfl (fun KT hKT => ?_)
  go_simp
  go_at_call 62
  have hE2 : EnsAt wA (if c = k + 1 then some ⟨b, off, none⟩ else some ⟨b, off + (k + 1) * 2, none⟩) (l.drop (k + 1)) := by
    by_cases q : c = k + 1
    · rw [if_pos q, show l.drop (k + 1) = [] from List.eq_nil_of_length_eq_zero (by rw [HK.out.2.1]; have := HC.out; omega)]
      exact EnsAt.nil _ _
    · rw [if_neg q]
      exact (HE.out.ins HFB.out.1 HFB.out.2 hsA).drop (k + 1)
  have hB2 : ∀ b' o', (if c = k + 1 then some (⟨b, off, none⟩ : Addr) else some ⟨b, off + (k + 1) * 2, none⟩) = some ⟨b', o', none⟩ → b' = b := fun b' o' q => by
    split at q <;> · cases q; rfl
  rw [HAP.out] at hE2 hB2
  refine (hsA.mutO fun F1 hI1 hF1 => HIH.out _ ⟨hI1, hP1.inv, hP1.agg, fun j => by rw [pls_at]; have := HP.out.2.2.1 j; split <;> omega, hE2, HK.out.2.1, by have := HK.out; have := HP2.out; omega, fun _ b' o' q => by rw [hB2 b' o' q]; exact (hF1 _ (.inl ⟨HFB.out.2, HFB.out.1⟩)).2, ⟨by have := HK.out; have := HC.out; omega, by have := HC.out; omega⟩, by have := hP1.free; have := HK.out; have := HP.out; omega⟩).mono ?_
  rintro eB wB ⟨A2, rd2, ⟨rfl, ir, tr, rfl, hP2, hM2, hG2⟩, hsB⟩
  try go_wp2_with fail
  refine hKT.out _ _ trivial (fun hHeld => ?_)
  clear hKT KT
  (try simp only [Act.put, put_s])
  refine anyG_tk (v := ?_) 11 6 rfl (by kernel_rfl) (Or.inl ⟨by rfl, ?_⟩) (by assumption) ?_
  rotate_left
  · intro w hSw; (try dsimp only at hSw); go_simp; try with_reducible rfl
  (try simp only [Act.put, put_s])
  refine anyG_tk (v := ?_) 12 7 rfl (by kernel_rfl) (Or.inl ⟨by rfl, ?_⟩) (by assumption) ?_
  rotate_left
  · intro w hSw; (try dsimp only at hSw); go_simp; try with_reducible rfl
  (try simp only [Act.put, put_s])
  refine anyG_done (by kernel_rfl) ?_ _
  have HM12 : Hid (Planted A held (l.take k) A1 il tl ∧ tl.mid ∧ ∀ i, A.σ.on i = true → A1.σ.gen i = A.σ.gen i) := ⟨hP1, hM1, hG1⟩
  have HPB : Hid (Planted A held (l.take k) A1 il tl ∧ Planted A1 (pls held il) (l.drop (k + 1)) A2 ir tr ∧ tr.mid ∧ ∀ i, A1.σ.on i = true → A2.σ.gen i = A1.σ.gen i) := ⟨hP1, hP2, hM2, hG2⟩
  obtain ⟨i, fr, hfr⟩ : ∃ i fr, A2.σ.free = i :: fr := by
    have h1 := hP1.free
    have h2 := hP2.free
    have h3 := HK.out
    have h4 := HP.out.2.2.2
    cases hq : A2.σ.free with
    | nil => rw [hq] at h2; simp only [List.length_nil] at h2; omega
    | cons i fr => exact ⟨i, fr, rfl⟩
  have HFR := Lib.hid hfr
  have hND := bld_node (e := en) hP1 hP2 hfr HEN.out.2 (by have := HK.out; omega) (by have := HK.out; have := HP2.out; omega) hM1 hM2 hG1 hG2
  rw [show l.take k ++ en :: l.drop (k + 1) = l from (split_at HEN.out.1).symm] at hND
  have HND := Lib.hid hND
  have hsl := hP1.sub.kept hP2.kept
  have HIX : Hid (A2.Idx il ∧ A2.Idx ir) := ⟨hsl.idx, hP2.sub.idx⟩
  have HOV := Lib.hid (over_ok (key := en.key) (val := en.val) rfl hP2.inv hP2.agg hfr hsl.idx hP2.sub.idx hND.1.2)
  have HE3 := Lib.hid (HE.out.ins HFB.out.1 HFB.out.2 hsB)
  have HSB := Lib.hid hsB
  clear hfr hND hsl hP1 hP2 hM1 hM2 hG1 hG2 hsA hsB hsd hHeld hE2 hB2
  have HCE : Hid (∀ {wx : World} {C : Ar} {rdx : Int}, Ins I w F (.pointer (some pa)) C rdx [] [] wx → wx.cell? ⟨b, off + k * 2, none⟩ = some (.int .i64 en.key) ∧ wx.cell? ⟨b, off + k * 2 + 1, none⟩ = some (.int .i64 en.val)) := fun {wx C rdx} hx => (HE.out.ins HFB.out.1 HFB.out.2 hx).two HEN.out.1
  have hkt : ((k : Int)).toNat = k := Int.toNat_natCast _
  go_upto_region 5 with fail
  have hsd := HSB.out.calm (Below.refl _ _).drew
  clear HSB HE3
  refine anyG_begin (S := (fun w' => w'.cell? ⟨b, off + k * 2, none⟩ = some (.int .i64 en.key) ∧ w'.cell? ⟨b, off + k * 2 + 1, none⟩ = some (.int .i64 en.val))) (z := 9999) (by kernel_rfl) (HCE.out hsd) (fun hHeld => ?_)
  refine anyG_tk (v := ?_) 0 28 rfl (by kernel_rfl) (Or.inl ⟨by rfl, ?_⟩) (by assumption) ?_
  rotate_left
  · intro w hSw; (try dsimp only at hSw); go_simp; try with_reducible rfl
  (try simp only [Act.put, put_s])
  refine anyG_tk (v := ?_) 1 29 rfl (by kernel_rfl) (Or.inl ⟨by rfl, ?_⟩) (by assumption) ?_
  rotate_left
  · intro w hSw; (try dsimp only at hSw); go_simp; try with_reducible rfl
  (try simp only [Act.put, put_s])
  refine anyG_tk (v := ?_) 2 30 rfl (by kernel_rfl) (Or.inl ⟨by rfl, ?_⟩) (by assumption) ?_
  rotate_left
  · intro w hSw; (try dsimp only at hSw); go_simp; try with_reducible rfl
  (try simp only [Act.put, put_s])
  refine anyG_tk (v := ?_) 3 31 rfl (by kernel_rfl) (Or.inl ⟨by rfl, ?_⟩) (by assumption) ?_
  rotate_left
  · intro w hSw; (try dsimp only at hSw); go_simp; try with_reducible rfl
  (try simp only [Act.put, put_s])
  refine anyG_tk (v := ?_) 4 32 rfl (by kernel_rfl) (Or.inl ⟨by rfl, ?_⟩) (by assumption) ?_
  rotate_left
  · intro w hSw; (try dsimp only at hSw); go_simp; try with_reducible rfl
  (try simp only [Act.put, put_s])
  refine anyG_tk (v := ?_) 5 33 rfl (by kernel_rfl) (Or.inl ⟨by rfl, ?_⟩) (by assumption) ?_
  rotate_left
  · intro w hSw; (try dsimp only at hSw); go_simp; try with_reducible rfl
  (try simp only [Act.put, put_s])
  refine anyG_tk (v := ?_) 6 34 rfl (by kernel_rfl) (Or.inl ⟨by rfl, ?_⟩) (by assumption) ?_
  rotate_left
  · intro w hSw; (try dsimp only at hSw); go_simp; try with_reducible rfl
  (try simp only [Act.put, put_s])
  refine anyG_tk (v := ?_) 7 35 rfl (by kernel_rfl) (Or.inl ⟨by rfl, ?_⟩) (by assumption) ?_
  rotate_left
  · intro w hSw; (try dsimp only at hSw); go_simp; try with_reducible rfl
  (try simp only [Act.put, put_s])
  refine anyG_tk (v := ?_) 8 36 rfl (by kernel_rfl) (Or.inl ⟨by rfl, ?_⟩) (by assumption) ?_
  rotate_left
  · intro w hSw; (try dsimp only at hSw); go_simp; try with_reducible rfl
  (try simp only [Act.put, put_s])
  refine anyG_tk (v := ?_) 9 37 rfl (by kernel_rfl) (Or.inl ⟨by rfl, ?_⟩) (by assumption) ?_
  rotate_left
  · intro w hSw; (try dsimp only at hSw); go_simp; try with_reducible rfl
  (try simp only [Act.put, put_s])
  refine anyG_tk (v := ?_) 10 38 rfl (by kernel_rfl) (Or.inl ⟨by rfl, ?_⟩) (by assumption) ?_
  rotate_left
  · intro w hSw; (try dsimp only at hSw); go_simp; try with_reducible rfl
  (try simp only [Act.put, put_s])
  refine anyG_tk (v := ?_) 11 39 rfl (by kernel_rfl) (Or.inl ⟨by rfl, ?_⟩) (by assumption) ?_
  rotate_left
  · intro w hSw; (try dsimp only at hSw); go_simp; try with_reducible rfl
  (try simp only [Act.put, put_s])
  refine anyG_tk (v := ?_) 12 40 rfl (by kernel_rfl) (Or.inl ⟨by rfl, ?_⟩) (by assumption) ?_
  rotate_left
  · intro w hSw; (try dsimp only at hSw); go_simp; try with_reducible rfl
  (try simp only [Act.put, put_s])
  refine anyG_one (k := 13) (o := _) (by kernel_rfl) rfl (fun KT hKT => ?_)
  go_simp
  go_at_call 65
  refine (hsd.make HPB.out.2.1.inv HPB.out.2.1.agg (fun j => by rw [pls_at, pls_at]; have := HP.out.2.2.1 j; split <;> split <;> omega) HEN.out.2.1 HEN.out.2.2 HIX.out.1 HIX.out.2 HND.out.1.2 HFR.out).mono ?_
  rintro eC wC ⟨rfl, hsC⟩
  try go_wp2_with fail
  refine hKT.out _ _ (HCE.out hsC) (fun hHeld => ?_)
  clear hKT KT
  (try simp only [Act.put, put_s])
  refine anyG_tk (v := ?_) 14 27 rfl (by kernel_rfl) (Or.inl ⟨by rfl, ?_⟩) (by assumption) ?_
  rotate_left
  · intro w hSw; (try dsimp only at hSw); go_simp; try with_reducible rfl
  (try simp only [Act.put, put_s])
  refine anyG_tk (v := ?_) 15 42 rfl (by kernel_rfl) (Or.inl ⟨by rfl, ?_⟩) (by assumption) ?_
  rotate_left
  · intro w hSw; (try dsimp only at hSw); go_simp; try with_reducible rfl
  (try simp only [Act.put, put_s])
  refine anyG_tk (v := ?_) 16 43 rfl (by kernel_rfl) (Or.inl ⟨by rfl, ?_⟩) (by assumption) ?_
  rotate_left
  · intro w hSw; (try dsimp only at hSw); go_simp; try with_reducible rfl
  (try simp only [Act.put, put_s])
  refine anyG_tk (v := ?_) 17 8 rfl (by kernel_rfl) (Or.inl ⟨by rfl, ?_⟩) (by assumption) ?_
  rotate_left
  · intro w hSw; (try dsimp only at hSw); go_simp; try with_reducible rfl
  (try simp only [Act.put, put_s])
  refine anyG_tk (v := ?_) 18 9 rfl (by kernel_rfl) (Or.inl ⟨by rfl, ?_⟩) (by assumption) ?_
  rotate_left
  · intro w hSw; (try dsimp only at hSw); go_simp; try with_reducible rfl
  (try simp only [Act.put, put_s])
  refine anyG_done (by kernel_rfl) ?_ _
  have HSC := Lib.hid hsC
  obtain ⟨o1, o2, o3, o4, o5, o6, o7, o8, o9, o10⟩ := HOV.out
  have HR1 : Hid (il < 4294967296 ∧ (A2.made i fr (A2.node en.key en.val il ir)).Idx il ∧ (A2.made i fr (A2.node en.key en.val il ir)).Inv [il] (mns (more (pls (pls held il) ir) i) il)) := ⟨idx_okB (o7 o8).ok o8, o8, o7 o8⟩
  have HR2 : Hid (ir < 4294967296 ∧ ((A2.made i fr (A2.node en.key en.val il ir)).gone il).Idx ir ∧ ((A2.made i fr (A2.node en.key en.val il ir)).gone il).Inv [ir] (mns (mns (more (pls (pls held il) ir) i) il) ir)) := ⟨idx_okB (o9 o10).ok o10, o10, o9 o10⟩
  clear o1 o2 o3 o4 o5 o6 o7 o8 o9 o10 hsC hsd hHeld HCE
  go_wp2_with fail
  refine (HSC.out.release HR1.out.1 HR1.out.2.1 HR1.out.2.2).mono ?_
  rintro e w6 ⟨rfl, hs6⟩
  have HS6 := Lib.hid hs6
  clear hs6 HSC
  go_wp2_with fail
  refine (HS6.out.release HR2.out.1 HR2.out.2.1 HR2.out.2.2).mono ?_
  rintro e w7 ⟨rfl, hs7⟩
  have HE7 := Lib.hid hs7.ends
  have HQ : Hid (BldQ A rd2 held l (.returned (.int .u32 (i : Int))) (A2.over i fr (A2.node en.key en.val il ir)) rd2) := ⟨rfl, i, _, rfl, HND.out.1.1, HND.out.2.1, HND.out.2.2⟩
  clear hs7 HS6
  go_wp2_with fail
  go_ret
  obtain ⟨F', hal, hI⟩ := HE7.out
  exact ⟨F', _, rd2, hal, hI, HQ.out⟩
theorem bld_zero (I : AImpl) : BldOk I 0 := by
  intro p A rd F held a n c l w hP
  obtain ⟨pa, rfl⟩ := I.ptr hP.is
  have h0 : n = 0 := by have := hP.small; omega
  have HS0 := Lib.hid (Ins.start hP.is)
  have hl : l = [] := List.eq_nil_of_length_eq_zero (by have := hP.len; omega)
  have HQ : Hid (BldQ A rd held l (.returned (.int .u32 ((0 : Nat) : Int))) A rd) := ⟨rfl, 0, .nil, rfl, by rw [hl]; exact .nil hP.inv hP.agg, trivial, fun _ _ => rfl⟩
  subst h0
  have HE := Lib.hid HS0.out.ends
  clear hP hl HS0
  go_enter Tryz.func62, Tryz.ntmps62
  go_wp2_with fail
  go_ret
  obtain ⟨F', hal, hI⟩ := HE.out
  exact ⟨F', A, rd, hal, hI, HQ.out⟩
theorem bld_all (I : AImpl) : ∀ D, BldOk I D
  | 0 => bld_zero I
  | D + 1 => bld_step I (bld_all I D)
set_option maxHeartbeats 16000000 in
set_option maxRecDepth 100000 in
theorem buildB_any (I : AImpl) {p : Value} {A : Ar} {rd : Int} {F : Nat → Prop} {held : Nat → Nat} {a : Option Addr} {n c : Nat} {l : List En} (w : World) (hI : I.Is w p A rd F) (hv : A.Inv [] held) (ha : A.Agg) (hm : ∀ j, held j ≤ 1048000) (hE : EnsAt w a l) (hn : l.length = n) (hn6 : n ≤ 65536) (hF : n ≠ 0 → ∀ b off, a = some ⟨b, off, none⟩ → ¬ F b) (hc : n ≤ c) (hcm : c ≤ maxLen) :
    Calls Tryz.prog 31 #[p, .slice a n c] w (Mut I p F (BuildQ A rd held l) w) := by
  obtain ⟨pa, rfl⟩ := I.ptr hI
  have HS0 := Lib.hid (Ins.start hI)
  have HP : Hid (A.Inv [] held ∧ A.Agg ∧ (∀ j, held j ≤ 1048000) ∧ EnsAt w a l ∧ l.length = n ∧ n ≤ 65536 ∧ (n ≠ 0 → ∀ b off, a = some ⟨b, off, none⟩ → ¬ F b) ∧ n ≤ c ∧ c ≤ maxLen) := ⟨hv, ha, hm, hE, hn, hn6, hF, hc, hcm⟩
  have hbd : (0 : Int) ≤ 16 * (l.length : Int) + 64 := by omega
  have HBD := Lib.hid hbd
  clear hI hv ha hm hE hn hF hc hcm hbd
  obtain ⟨v, hv⟩ : ∃ v : Bool, v = true ↔ Up l := by
    by_cases h : Up l
    · exact ⟨true, ⟨fun _ => h, fun _ => rfl⟩⟩
    · exact ⟨false, ⟨fun q => (by cases q), fun q => absurd q h⟩⟩
  have HV := Lib.hid hv
  have HA := Lib.hid (ascB_any (c := c) (w := w) HP.out.2.2.2.1 HP.out.2.2.2.2.1 (by omega) hv)
  clear hv
  go_enter Tryz.func31, Tryz.ntmps31
  go_wp2_with fail
  refine HA.out.mono ?_
  rintro e w1 ⟨rfl, hb1⟩
  have HS1 := Lib.hid (HS0.out.calm hb1)
  clear HA
  cases v with
  | false =>
    have HQ : Hid (BuildQ A rd held l (.returned (.tuple #[.int .u32 0, .int .i64 7])) A rd) := ⟨Int.le_refl _, by have := HBD.out; omega, .inl ⟨fun q => (by have := HV.out.2 q; cases this), rfl, rfl⟩⟩
    have HE := Lib.hid HS1.out.ends
    clear hb1 HS0 HS1
    go_wp2_with fail
    go_ret2
    obtain ⟨F', hal, hI⟩ := HE.out
    exact ⟨F', A, rd, hal, hI, HQ.out⟩
  | true =>
    have HUP : Hid (Up l) := HV.out.1 rfl
    clear hb1 HS0
    go_wp2_with fail
    refine HS1.out.free.mono ?_
    rintro e w2 ⟨rfl, hs2⟩
    have HS2 := Lib.hid hs2
    clear hs2 HS1
    by_cases hfr : A.σ.free.length < n
    · have d1 : decide ((A.σ.free.length : Int) < (n : Int)) = true := decide_eq_true (by omega)
      have d2 : A.σ.free.length < n := hfr
      have HQ : Hid (BuildQ A rd held l (.returned (.tuple #[.int .u32 0, .int .i64 2])) A rd) := ⟨Int.le_refl _, by have := HBD.out; omega, .inr (.inl ⟨HUP.out, by rw [HP.out.2.2.2.2.1]; exact hfr, rfl, rfl⟩)⟩
      have HE := Lib.hid HS2.out.ends
      clear HS2 hfr
      go_wp2_with fail
      go_ret2
      obtain ⟨F', hal, hI⟩ := HE.out
      exact ⟨F', A, rd, hal, hI, HQ.out⟩
    · have d1 : decide ((A.σ.free.length : Int) < (n : Int)) = false := decide_eq_false (by omega)
      have d2 : ¬ A.σ.free.length < n := hfr
      have HRM : Hid (n ≤ A.σ.free.length) := Nat.not_lt.1 hfr
      clear hfr
      go_wp2_with fail
      refine (HS2.out.mutO fun F1 hI1 hF1 => bld_all I 17 w2 ⟨hI1, HP.out.1, HP.out.2.1, fun j => by have := HP.out.2.2.1 j; omega, ?_, HP.out.2.2.2.2.1, by have := HP.out.2.2.2.2.2.1; omega, ?_, HP.out.2.2.2.2.2.2.2, HRM.out⟩).mono ?_
      · by_cases h0 : n = 0
        · have : l = [] := List.eq_nil_of_length_eq_zero (by have := HP.out.2.2.2.2.1; omega)
          rw [this]; exact EnsAt.nil _ _
        · obtain ⟨b, off, h1, h2, _⟩ := HP.out.2.2.2.1.cell 0 (l[0]'(by have := HP.out.2.2.2.2.1; omega)) (List.getElem?_eq_getElem _)
          subst h1
          exact HP.out.2.2.2.1.ins (HP.out.2.2.2.2.2.2.1 h0 b off rfl) h2 HS2.out
      · intro h0 b off q
        obtain ⟨b', off', h1, h2, _⟩ := HP.out.2.2.2.1.cell 0 (l[0]'(by have := HP.out.2.2.2.2.1; omega)) (List.getElem?_eq_getElem _)
        have hbb : b' = b := by rw [h1] at q; cases q; rfl
        subst hbb
        exact (hF1 _ (.inl ⟨h2, HP.out.2.2.2.2.2.2.1 h0 b' off' h1⟩)).2
      rintro e w3 ⟨B, rd3, ⟨rfl, j, t, rfl, hPl, hMd, hGn⟩, hs3⟩
      have HQ : Hid (BuildQ A rd3 held l (.returned (.tuple #[.int .u32 (j : Int), .int .i64 0])) B rd3) := ⟨Int.le_refl _, by have := HBD.out; omega, .inr (.inr ⟨HUP.out, by rw [HP.out.2.2.2.2.1]; exact HRM.out, j, t, rfl, ⟨hPl.kept, hGn, hPl.inv, hPl.agg, hPl.sub, hPl.ents, hPl.bal⟩, hMd, hPl.free⟩)⟩
      have HE := Lib.hid hs3.ends
      clear hs3 hPl hMd hGn HS2
      go_wp2_with fail
      go_ret2
      obtain ⟨F', hal, hI⟩ := HE.out
      exact ⟨F', B, rd3, hal, hI, HQ.out⟩
end Go.Proofs.YtfihklpofmcfgaaGreat
namespace Go.Proofs.YtfihklpofmcfgaaGreat
theorem bkImpl (I : AImpl) : BkImpl I where
  build := fun w hI hv ha hm hE hn hn6 hF hc hcm h0 h1 => buildB_any I w hI hv ha hm hE hn hn6 hF hc hcm
  list := fun w hI hT hw h0 h1 => listB_any I w hI hT hw h0 h1
  range := fun {p A rd F i t l} lo hi lim w hI hT h0 h1 _ _ _ => (rangeB_any I lo hi lim w hI hT h0 (by omega)).mono fun e w' h => h.more (by unfold bulkBd; omega)
theorem getE_found0 {l : List En} (hu : Up l) {e : En} (hm : e ∈ l) : getE l e.key = some e := by
  cases hg : getE l e.key with
  | none =>
    exfalso
    unfold getE at hg
    have := List.find?_eq_none.1 hg e hm
    simp at this
  | some e' =>
    unfold getE at hg
    have h1 := List.mem_of_find?_eq_some hg
    have h2 : e'.key = e.key := by simpa using List.find?_some hg
    obtain ⟨i, hi, rfl⟩ := List.mem_iff_getElem.1 hm
    obtain ⟨j, hj, rfl⟩ := List.mem_iff_getElem.1 h1
    rcases Nat.lt_trichotomy i j with h | h | h
    · have := List.pairwise_iff_getElem.1 hu i j hi hj h; omega
    · subst h; rfl
    · have := List.pairwise_iff_getElem.1 hu j i hj hi h; omega
theorem up_ext : ∀ {l m : List En}, Up l → Up m → (∀ y, y ∈ l ↔ y ∈ m) → l = m
  | [], [], _, _, _ => rfl
  | [], y :: s, _, _, h => by have := (h y).2 (by simp); cases this
  | x :: t, [], _, _, h => by have := (h x).1 (by simp); cases this
  | x :: t, y :: s, hl, hm, h => by
    have hl' := List.pairwise_cons.1 hl
    have hm' := List.pairwise_cons.1 hm
    have hxy : x = y := by
      rcases List.mem_cons.1 ((h x).1 (by simp)) with h1 | h1
      · exact h1
      · rcases List.mem_cons.1 ((h y).2 (by simp)) with h2 | h2
        · exact h2.symm
        · have := hl'.1 y h2
          have := hm'.1 x h1
          omega
    subst hxy
    congr 1
    refine up_ext hl'.2 hm'.2 fun z => ⟨fun hz => ?_, fun hz => ?_⟩
    · rcases List.mem_cons.1 ((h z).1 (by simp [hz])) with h1 | h1
      · have := hl'.1 z hz; rw [h1] at this; omega
      · exact h1
    · rcases List.mem_cons.1 ((h z).2 (by simp [hz])) with h1 | h1
      · have := hm'.1 z hz; rw [h1] at this; omega
      · exact h1
theorem insF_mem_iff (e y : En) : ∀ (t : List En) (d : Bool), y ∈ insF e t d ↔ (d = false ∧ y = e) ∨ (y ∈ t ∧ y.key ≠ e.key)
  | [], d => by unfold insF; cases d <;> simp
  | x :: t, d => by
    unfold insF
    rw [List.mem_append, List.mem_append, insF_mem_iff e y t]
    have h1 : (y ∈ if x.key ≠ e.key then [x] else []) ↔ y = x ∧ x.key ≠ e.key := by
      by_cases h : x.key = e.key <;> simp [h]
    rw [h1, List.mem_cons]
    cases d with
    | true =>
      simp only [Bool.not_true, Bool.false_and, Bool.true_or, Bool.false_eq_true, if_false, List.not_mem_nil, false_or]
      constructor
      · rintro (⟨rfl, h⟩ | h)
        · exact .inr ⟨.inl rfl, h⟩
        · rcases h with ⟨h, _⟩ | ⟨h, h'⟩
          · cases h
          · exact .inr ⟨.inr h, h'⟩
      · rintro (⟨h, _⟩ | ⟨rfl | h, h'⟩)
        · cases h
        · exact .inl ⟨rfl, h'⟩
        · exact .inr (.inr ⟨h, h'⟩)
    | false =>
      by_cases hk : e.key ≤ x.key
      · simp only [Bool.not_false, Bool.true_and, decide_eq_true_eq, hk, if_true, decide_true, Bool.or_true, List.mem_singleton]
        constructor
        · rintro ((rfl | ⟨rfl, h⟩) | h)
          · exact .inl ⟨trivial, rfl⟩
          · exact .inr ⟨.inl rfl, h⟩
          · rcases h with ⟨h, _⟩ | ⟨h, h'⟩
            · cases h
            · exact .inr ⟨.inr h, h'⟩
        · rintro (⟨_, rfl⟩ | ⟨rfl | h, h'⟩)
          · exact .inl (.inl rfl)
          · exact .inl (.inr ⟨rfl, h'⟩)
          · exact .inr (.inr ⟨h, h'⟩)
      · simp only [Bool.not_false, Bool.true_and, hk, decide_false, Bool.false_eq_true, if_false, List.not_mem_nil, false_or, Bool.or_false]
        constructor
        · rintro (⟨rfl, h⟩ | h)
          · exact .inr ⟨.inl rfl, h⟩
          · rcases h with ⟨_, rfl⟩ | ⟨h, h'⟩
            · exact .inl ⟨trivial, rfl⟩
            · exact .inr ⟨.inr h, h'⟩
        · rintro (⟨_, rfl⟩ | ⟨rfl | h, h'⟩)
          · exact .inr (.inl ⟨trivial, rfl⟩)
          · exact .inl ⟨rfl, h'⟩
          · exact .inr (.inr ⟨h, h'⟩)
theorem ins_mem (l : List En) (e y : En) : y ∈ insE l e ↔ y = e ∨ (y ∈ l ∧ y.key ≠ e.key) := by
  unfold insE
  rw [insF_mem_iff]
  simp
theorem getE_iff {l : List En} (hu : Up l) (k : Int) (e : En) : getE l k = some e ↔ e ∈ l ∧ e.key = k := by
  constructor
  · intro h
    unfold getE at h
    exact ⟨List.mem_of_find?_eq_some h, by simpa using List.find?_some h⟩
  · rintro ⟨h, rfl⟩
    exact getE_found0 hu h
end Go.Proofs.YtfihklpofmcfgaaGreat
