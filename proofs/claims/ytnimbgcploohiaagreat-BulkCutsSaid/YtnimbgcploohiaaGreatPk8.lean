/- Of the proofs of BulkCuts, BulkPartsJoin: LkOk2, RkOk1, RkOk, BkOk2, BkAsc, InsPath. -/
import Derived.Test.YtnimbgcploohiaaGreatPk1
import Derived.Test.YtnimbgcploohiaaGreatPk2
import Derived.Test.YtnimbgcploohiaaGreatPk3
import Derived.Test.YtnimbgcploohiaaGreatPk4
import Derived.Test.YtnimbgcploohiaaGreatPk5
import Derived.Test.YtnimbgcploohiaaGreatPk6
import Derived.Test.YtnimbgcploohiaaGreatPk7
import Derived.Deep.QuietTactic
set_option linter.unusedVariables false
set_option linter.unusedSimpArgs false
namespace Go.Proofs.YtnimbgcploohiaaGreat
open Go.RowKit
section
variable {I : AImpl} {w wr wx : World} {F : Nat → Prop} {p : Value} {A : Ar} {rd : Int} {X : Nat → Prop}
theorem In.set2 (h : In I w F p A rd X wr) {g : Nat} (hg : X g) (hn : w.heap.size ≤ g) (x y : Value) : In I w F p A rd X ((wr.setCell ⟨g, 0, none⟩ x).setCell ⟨g, 1, none⟩ y) := by
  obtain ⟨F1, f1, f2, f3⟩ := h.mr.has
  have ho : ∀ k, k ≠ g → ((wr.setCell ⟨g, 0, none⟩ x).setCell ⟨g, 1, none⟩ y).heap[k]? = wr.heap[k]? := fun k hk => by rw [heap_setCell_other _ _ _ _ hk, heap_setCell_other _ _ _ _ hk]
  have hsz : ((wr.setCell ⟨g, 0, none⟩ x).setCell ⟨g, 1, none⟩ y).heap.size = wr.heap.size := by simp [World.setCell]
  refine ⟨⟨⟨F1, I.keep f1 fun k hk => ho k fun e => (f3 g (.inr hg)).2 (e ▸ hk), f2, fun k hk => ⟨by rw [hsz]; exact (f3 k hk).1, (f3 k hk).2⟩⟩, ?_, Nat.zero_le _⟩, fun k hk => ?_⟩
  · exact h.mr.below.trans ⟨rfl, rfl, rfl, Nat.le_of_eq hsz.symm, fun k hk => by omega⟩
  · have hne : k ≠ g := fun e => by have := hk.1; omega
    exact (ho k hne).trans (h.kp k hk)
theorem In.call {bd : Int} {v : Value} {f : FuncId} {args : Array Value} (h : In I w F p A rd X wr) (hc : ∀ F1, I.Is wr p A rd F1 → Calls Tryz.prog f args wr (ReadsTo I p A rd F1 bd v wr)) :
    Calls Tryz.prog f args wr fun e w' => e = .returned v ∧ ∃ rd', In I w F p A rd' X w' ∧ Keeps X wr w' ∧ rd ≤ rd' ∧ rd' ≤ rd + bd := by
  refine (mr_call h.mr hc).mono ?_
  rintro e w1 ⟨he, rd', h1, h2, h3, h4⟩
  exact ⟨he, rd', ⟨h1, fun k hk => (h2 k (.inl hk)).trans (h.kp k hk)⟩, fun k hk => h2 k (.inr hk), h3, h4⟩
end
/-- the result's box and the best entry's box -/
structure BB (I : AImpl) (w : World) (F : Nat → Prop) (p : Value) (A : Ar) (rd : Int) (r b : Nat) (o : Option En) (wr : World) : Prop where
  ins : In I w F p A rd (fun k => k = r ∨ k = b) wr
  hr : wr.heap[r]? = some (.cells #[.int .i64 0, .int .i64 0] 34 (0, 0))
  hb : wr.heap[b]? = some (.cells #[.int .i64 (o.elim 0 (·.key)), .int .i64 (o.elim 0 (·.val))] 34 (0, 0))
  ne : r ≠ b
  old : w.heap.size ≤ r ∧ w.heap.size ≤ b
section
variable {I : AImpl} {w wr wx : World} {F : Nat → Prop} {p : Value} {A : Ar} {rd rd' : Int} {r b : Nat} {o : Option En}
theorem BB.start (h : I.Is w p A rd F) : BB I w F p A rd w.heap.size (w.heap.size + 1) none ((w.alloc (.cells #[.int .i64 0, .int .i64 0] 34)).alloc (.cells #[.int .i64 0, .int .i64 0] 34)) := by
  have h1 := (In.start h).alloc (.cells #[.int .i64 0, .int .i64 0] 34)
  have h2 := h1.alloc (.cells #[.int .i64 0, .int .i64 0] 34)
  refine ⟨h2.less fun k hk => ?_, ?_, ?_, by omega, by omega⟩
  · rcases hk with rfl | rfl
    · exact .inl (.inr rfl)
    · exact .inr (by simp)
  · exact (h1.keeps (below_new7 _ _) _ (.inr rfl)).trans (heap_alloc_new w _)
  · have := heap_alloc_new (w.alloc (.cells #[.int .i64 0, .int .i64 0] 34)) (.cells #[.int .i64 0, .int .i64 0] 34)
    rw [World.size_alloc] at this
    exact this
theorem BB.calm (h : BB I w F p A rd r b o wr) (hb : Below wr.heap.size wr wx) : BB I w F p A rd r b o wx :=
  ⟨h.ins.calm hb, (h.ins.keeps hb r (.inl rfl)).trans h.hr, (h.ins.keeps hb b (.inr rfl)).trans h.hb, h.ne, h.old⟩
theorem BB.step (h : BB I w F p A rd r b o wr) (hi : In I w F p A rd' (fun k => k = r ∨ k = b) wx) (hk : Keeps (fun k => k = r ∨ k = b) wr wx) : BB I w F p A rd' r b o wx :=
  ⟨hi, (hk r (.inl rfl)).trans h.hr, (hk b (.inr rfl)).trans h.hb, h.ne, h.old⟩
theorem BB.put (h : BB I w F p A rd r b o wr) (e : En) : BB I w F p A rd r b (some e) ((wr.setCell ⟨b, 0, none⟩ (.int .i64 e.key)).setCell ⟨b, 1, none⟩ (.int .i64 e.val)) :=
  ⟨h.ins.set2 (.inr rfl) h.old.2 _ _, by rw [heap_setCell_other _ _ _ _ h.ne, heap_setCell_other _ _ _ _ h.ne]; exact h.hr, by rw [heap_setCell_same _ b 1 _ _ _ (heap_setCell_same wr b 0 _ _ _ h.hb)]; rfl, h.ne, h.old⟩
theorem BB.ends {rd0 bd : Int} (h : BB I w F p A rd r b o wr) (h0 : rd0 ≤ rd) (h1 : rd ≤ rd0 + bd) :
    ReadsTo I p A rd0 F bd (enR o) w (.returned (.tuple #[.agg #[.int .i64 (o.elim 0 (·.key)), .int .i64 (o.elim 0 (·.val))], .bool o.isSome])) ((wr.setCell ⟨r, 0, none⟩ (.int .i64 (o.elim 0 (·.key)))).setCell ⟨r, 1, none⟩ (.int .i64 (o.elim 0 (·.val)))) ∧
    ((wr.setCell ⟨r, 0, none⟩ (.int .i64 (o.elim 0 (·.key)))).setCell ⟨r, 1, none⟩ (.int .i64 (o.elim 0 (·.val)))).heap[r]? = some (.cells #[.int .i64 (o.elim 0 (·.key)), .int .i64 (o.elim 0 (·.val))] 34 (0, 0)) :=
  ⟨(h.ins.set2 (.inl rfl) h.old.1 _ _).ends h0 h1, by rw [heap_setCell_same _ r 1 _ _ _ (heap_setCell_same wr r 0 _ _ _ h.hr)]; rfl⟩
end
set_option maxRecDepth 100000 in
theorem entry_any (x : Nd) (w : World) : Calls Tryz.prog 104 #[.agg (ndRow x)] w (Calm w (.agg #[.int .i64 x.key, .int .i64 x.val])) := by
  have hin : (Tryz.prog.info? 34).map (·.size) = some 2 := by kernel_rfl
  have HINF := Lib.hid hin
  have HU : Hid _ := Lib.hid Tryz.underlying34
  have hb := below_new7 w (Obj.cells (ndRow x) 65)
  have hbx := heap_alloc_new w (Obj.cells (ndRow x) 65)
  clear hin
  go_enter Tryz.func104, Tryz.ntmps104
  unfold ndRow
  go_upto_region 1 with fail
  rw [show #[Value.int .i64 x.key, .int .i64 x.val, .int .u32 (x.left : Int), .int .u32 (x.right : Int), .int .i64 x.size, .int .i64 x.sum, .int .i64 x.mn, .int .i64 x.mx] = ndRow x from rfl]
  have hsz : w.heap.size < (w.alloc (Obj.cells (ndRow x) 65)).heap.size := by simp
  have hs1 : (w.alloc (Obj.cells (ndRow x) 65)).heap.size = w.heap.size + 1 := World.size_alloc _ _
  generalize w.alloc (Obj.cells (ndRow x) 65) = w2 at hb hbx hsz hs1 ⊢
  generalize hg : w.heap.size = g at hb hbx hsz hs1 ⊢
  have hb3 := below_new7 w2 (Obj.cells #[.int .i64 0, .int .i64 0] 34)
  have hr3 := heap_alloc_new w2 (Obj.cells #[.int .i64 0, .int .i64 0] 34)
  have hx3 := (hb3.block g hsz).trans hbx
  have hb4 := hb.trans (hb3.mono (Nat.le_of_lt hsz))
  (try rw [World.size_alloc])
  generalize w2.alloc (Obj.cells #[.int .i64 0, .int .i64 0] 34) = w3 at hr3 hx3 hb4 ⊢
  clear hb3
  (try rw [hg])
  rw [hs1] at hr3
  generalize hq : g + 1 = q at hr3 ⊢
  have x0 : w3.cell? ⟨g, 0, none⟩ = some (.int .i64 x.key) := by rw [cell_of_row _ _ _ _ _ _ hx3]; rfl
  have x1 : w3.cell? ⟨g, 1, none⟩ = some (.int .i64 x.val) := by rw [cell_of_row _ _ _ _ _ _ hx3]; rfl
  obtain ⟨r0, r1⟩ := two_ofE hr3
  have f0 := frozen_of_row _ _ 0 _ _ hr3
  have f1 := frozen_of_row _ _ 1 _ _ hr3
  have hgq : g ≠ q := by omega
  have HFIN : Hid (Below g w ((w3.setCell ⟨q, 0, none⟩ (.int .i64 x.key)).setCell ⟨q, 1, none⟩ (.int .i64 x.val)) ∧ ((w3.setCell ⟨q, 0, none⟩ (.int .i64 x.key)).setCell ⟨q, 1, none⟩ (.int .i64 x.val)).heap[q]? = some (.cells #[.int .i64 x.key, .int .i64 x.val] 34 (0, 0))) :=
    ⟨(hb4.setCell (by show g ≤ q; omega) _).setCell (by show g ≤ q; omega) _, by rw [heap_setCell_same _ q 1 _ _ _ (heap_setCell_same w3 q 0 _ _ _ hr3)]; rfl⟩
  have HGG := Lib.hid hg
  clear hb hbx hsz hs1 hr3 hx3 hb4 hg hq
  go_wp2_with fail
  refine bodyPost_ret (results_cell_row rfl _ _ q 34 #[.int .i64 x.key, .int .i64 x.val] (0, 0) _ rfl HFIN.out.2 HU.out rfl HINF.out) rfl ?_
  exact ⟨rfl, by rw [HGG.out]; exact HFIN.out.1⟩
def Waybefore (I : AImpl) (w : World) (F : Nat → Prop) (p : Value) (A : Ar) (rd0 : Int) (k : Int) (eq : Bool) (R : Option En) (top : Int) (r b U : Nat) (fd x c : Value) (wr : World) : Prop :=
  ∃ (i n : Nat) (u : Tr) (rd : Int) (o : Option En), fd = .bool o.isSome ∧ x = .int .u32 (i : Int) ∧ c = .int .i64 (n : Int) ∧ Sub A i u ∧ bef A.nd (k + if eq then 1 else 0) u o = R ∧ rd0 ≤ rd ∧ rd + (u.ht : Int) ≤ top ∧ n + u.size ≤ U ∧ BB I w F p A rd r b o wr
set_option maxHeartbeats 4000000 in
set_option maxRecDepth 100000 in
theorem beforeH_any (I : AImpl) {p : Value} {A : Ar} {rd : Int} {F : Nat → Prop} {i : Nat} {t : Tr} {l : List En} (bd : Int) (k : Int) (eq : Bool) (w : World) (hI : I.Is w p A rd F) (hT : TreeAt A i t l) (h0 : 0 ≤ rd) (h1 : rd ≤ 1099511627776) (hbd : (t.ht : Int) ≤ bd) :
    Calls Tryz.prog 79 #[p, .int .u32 (i : Int), .int .i64 k, .bool eq] w (ReadsTo I p A rd F (bd) (enR (bef A.nd (k + if eq then 1 else 0) t none)) w) := by
  obtain ⟨pa, rfl⟩ := I.ptr hI
  have hin : (Tryz.prog.info? 34).map (·.size) = some 2 := by kernel_rfl
  have HINF := Lib.hid hin
  have HU : Hid _ := Lib.hid Tryz.underlying34
  have hb : (t.ht : Int) ≤ bd ∧ t.ht ≤ 65536 := ⟨hbd, hT.bound.2⟩
  clear hbd
  obtain ⟨R, hR⟩ : ∃ R, bef A.nd (k + if eq then 1 else 0) t none = R := ⟨_, rfl⟩
  rw [hR]
  obtain ⟨M, hM⟩ : ∃ M, bd = M := ⟨_, rfl⟩
  rw [hM] at hb ⊢
  obtain ⟨held, hv⟩ := hT.inv
  have hcap := hv.ok.cap2
  have hhd := hT.held
  obtain ⟨U, hUU⟩ : ∃ U, U + A.σ.free.length = A.σ.cap := ⟨A.σ.cap - A.σ.free.length, by omega⟩
  have HUU : Hid (U ≤ 65536 ∧ t.size ≤ U) := ⟨by omega, by omega⟩
  have HOK := Lib.hid hv.ok
  have HRD : Hid (0 ≤ rd ∧ rd ≤ 1099511627776 ∧ (t.ht : Int) ≤ M ∧ t.ht ≤ 65536) := ⟨h0, h1, hb.1, hb.2⟩
  have hbb := BB.start hI
  have HLP : Hid (∀ wx F1, I.Is wx (.pointer (some pa)) A rd F1 → Calls Tryz.prog 82 #[.pointer (some pa)] wx (Calm wx (.int .i64 (U : Int)))) := fun wx F1 h => longest_any I wx h hUU
  have HSUB := Lib.hid hT.sub
  have HRR := Lib.hid hR
  clear hI hT h0 h1 hb hR hM hv hin hcap hhd hUU
  go_enter Tryz.func79, Tryz.ntmps79
  go_upto_region 2 with fail
  generalize (w.alloc (Obj.cells #[.int .i64 0, .int .i64 0] 34)).alloc (Obj.cells #[.int .i64 0, .int .i64 0] 34) = w1 at hbb ⊢
  obtain ⟨r, hr⟩ : ∃ r, w.heap.size = r := ⟨_, rfl⟩
  rw [hr] at hbb ⊢
  generalize hb1 : r + 1 = b at hbb ⊢
  have HBB := Lib.hid hbb
  clear hbb hr hb1
  go_wp2_with fail
  obtain ⟨F1, f1, -, -⟩ := HBB.out.ins.mr.has
  refine (HLP.out w1 F1 f1).mono ?_
  rintro e w1' ⟨rfl, hb1'⟩
  have HW0 : Hid (Waybefore I w F (.pointer (some pa)) A rd k eq R (rd + (t.ht : Int)) r b U (.bool false) (.int .u32 (i : Int)) (.int .i64 0) w1') := ⟨i, 0, t, rd, none, rfl, rfl, rfl, HSUB.out, HRR.out, Int.le_refl _, Int.le_refl _, by have := HUU.out; omega, HBB.out.calm hb1'⟩
  clear f1 hb1' HBB HLP
  go_wp2_with fail
  go_loopw [11, 12, 18] (fun fd x c wr => Waybefore I w F (.pointer (some pa)) A rd k eq R (rd + (t.ht : Int)) r b U fd x c wr) (fun _ _ c _ => U - (intOf c).toNat)
  case atStart => exact HW0.out
  case round =>
    clear HW0
    obtain ⟨i, n, u, rd1, o, rfl, rfl, rfl, hu, hg, hr0, hr1, hn, hB⟩ := hrel
    rcases Nat.lt_or_ge n U with hnu | hnu
    rotate_left
    · have hnu2 : decide ((n : Int) < (U : Int)) = false := decide_eq_false (by omega)
      have hu0 : u = .nil := by
        cases u with
        | nil => rfl
        | node i l r =>
          have : (Tr.node i l r).size = l.size + r.size + 1 := rfl
          omega
      subst hu0
      have ho : o = R := hg
      subst ho
      have he := hB.ends hr0 (bd := M) (by have := HRD.out; omega)
      have hUn : ¬ n < U := Nat.not_lt.2 hnu
      clear hu hg hr0 hr1 hn hnu
      have HE := Lib.hid he
      obtain ⟨c0, c1⟩ := two_ofE hB.hb
      obtain ⟨r0, r1⟩ := two_ofE hB.hr
      have f0 := frozen_of_row _ _ 0 _ _ hB.hr
      have f1 := frozen_of_row _ _ 1 _ _ hB.hr
      have hne := hB.ne
      have hne2 : b ≠ r := fun e => hne e.symm
      obtain ⟨X, hX⟩ : ∃ X, o.elim (0 : Int) (·.key) = X := ⟨_, rfl⟩
      obtain ⟨Y, hY⟩ : ∃ Y, o.elim (0 : Int) (·.val) = Y := ⟨_, rfl⟩
      rw [hX] at c0 HE
      rw [hY] at c1 HE
      clear hB he hX hY
      go_wp2_with fail
      refine bodyPost_ret (results_row_tmp rfl _ _ r 34 #[.int .i64 X, .int .i64 Y] (0, 0) _ rfl HE.out.2 HU.out rfl HINF.out) rfl ?_
      exact HE.out.1
    have hnu2 : decide ((n : Int) < (U : Int)) = true := decide_eq_true (by omega)
    have hnu3 : (n : Int) < (U : Int) := by omega
    have hU4 : (U : Int) ≤ 65536 := by have := HUU.out.1; omega
    have hn0 : (0 : Int) ≤ (n : Int) := by omega
    cases u with
    | nil =>
      obtain rfl : i = 0 := by
        cases hu with
        | nil => rfl
      have ho : o = R := hg
      subst ho
      have HR1 : Hid (rd ≤ rd1 ∧ rd1 ≤ rd + (t.ht : Int)) := ⟨hr0, by have : (Tr.nil.ht : Nat) = 0 := rfl; omega⟩
      have HBB := Lib.hid hB
      clear hu hg hr0 hr1 hB hn
      go_wp2_with fail
      refine (HBB.out.ins.off (by have := HR1.out; have := HRD.out; omega) (by have := HR1.out; have := HRD.out; omega)).mono ?_
      rintro e w2 ⟨rfl, hin2, hk2⟩
      have hB2 := (HBB.out.step hin2 hk2).calm (below_new7 w2 (Obj.cells (ndRow Nd.zero) 65))
      clear hin2 hk2 HBB
      unfold ndRow
      go_upto_region 7 with fail
      rw [show #[Value.int .i64 Nd.zero.key, .int .i64 Nd.zero.val, .int .u32 (Nd.zero.left : Int), .int .u32 (Nd.zero.right : Int), .int .i64 Nd.zero.size, .int .i64 Nd.zero.sum, .int .i64 Nd.zero.mn, .int .i64 Nd.zero.mx] = ndRow Nd.zero from rfl]
      generalize w2.alloc (Obj.cells (ndRow Nd.zero) 65) = w3 at hB2 ⊢
      have hB := hB2
      clear hB2
      have he := hB.ends (rd0 := rd) (bd := M) HR1.out.1 (by have := HR1.out; have := HRD.out; omega)
      generalize w2.heap.size = g
      have HE := Lib.hid he
      obtain ⟨c0, c1⟩ := two_ofE hB.hb
      obtain ⟨r0, r1⟩ := two_ofE hB.hr
      have f0 := frozen_of_row _ _ 0 _ _ hB.hr
      have f1 := frozen_of_row _ _ 1 _ _ hB.hr
      have hne := hB.ne
      have hne2 : b ≠ r := fun e => hne e.symm
      obtain ⟨X, hX⟩ : ∃ X, o.elim (0 : Int) (·.key) = X := ⟨_, rfl⟩
      obtain ⟨Y, hY⟩ : ∃ Y, o.elim (0 : Int) (·.val) = Y := ⟨_, rfl⟩
      rw [hX] at c0 HE
      rw [hY] at c1 HE
      clear hB he hX hY
      go_wp2_with fail
      refine bodyPost_ret (results_row_tmp rfl _ _ r 34 #[.int .i64 X, .int .i64 Y] (0, 0) _ rfl HE.out.2 HU.out rfl HINF.out) rfl ?_
      exact HE.out.1
    | node i2 l2 r2 =>
      obtain ⟨rfl, h0, hon, hsl, hsr⟩ : i2 = i ∧ i ≠ 0 ∧ A.σ.on i = true ∧ Sub A (A.nd i).left l2 ∧ Sub A (A.nd i).right r2 := by
        cases hu with
        | node _ _ _ h1 h2 h3 h4 => exact ⟨rfl, h1, h2, h3, h4⟩
      have hi4 : i2 < 4294967296 := by have := HOK.out.on i2 hon; have := HOK.out.cap2; omega
      have hht : (Tr.node i2 l2 r2).ht = 1 + max l2.ht r2.ht := rfl
      rw [show (Tr.node i2 l2 r2).size = l2.size + r2.size + 1 from rfl] at hn
      have HNL : Hid (n + 1 + l2.size ≤ U) := by show _ ≤ _; omega
      have HNR : Hid (n + 1 + r2.size ≤ U) := by show _ ≤ _; omega
      have HSL := Lib.hid hsl
      have HSR := Lib.hid hsr
      have HON := Lib.hid hon
      have HI4 := Lib.hid hi4
      have HR1 : Hid (rd ≤ rd1 ∧ rd1 + 1 + (l2.ht : Int) ≤ rd + (t.ht : Int) ∧ rd1 + 1 + (r2.ht : Int) ≤ rd + (t.ht : Int)) := ⟨hr0, by omega, by omega⟩
      have HBB := Lib.hid hB
      unfold bef at hg
      have HG := Lib.hid hg
      clear hu hg hr0 hr1 hB h0 hon hsl hsr hi4 hht hn
      go_wp2_with fail
      refine (HBB.out.ins.node (by have := HR1.out; have := HRD.out; omega) (by have := HR1.out; have := HRD.out; omega) HI4.out HON.out).mono ?_
      rintro e w2 ⟨rfl, hin2, hk2⟩
      have HB2 := Lib.hid (HBB.out.step hin2 hk2)
      clear hin2 hk2 HBB
      unfold ndRow
      go_upto_region 7 with fail
      rw [show #[Value.int .i64 (A.nd i2).key, .int .i64 (A.nd i2).val, .int .u32 ((A.nd i2).left : Int), .int .u32 ((A.nd i2).right : Int), .int .i64 (A.nd i2).size, .int .i64 (A.nd i2).sum, .int .i64 (A.nd i2).mn, .int .i64 (A.nd i2).mx] = ndRow (A.nd i2) from rfl]
      have hB3 := HB2.out.calm (below_new7 w2 (Obj.cells (ndRow (A.nd i2)) 65))
      have hbx := heap_alloc_new w2 (Obj.cells (ndRow (A.nd i2)) 65)
      have hgb : b < w2.heap.size := HB2.out.ins.mr.lt (.inr (.inr rfl))
      have hgl : w2.heap.size < (w2.alloc (Obj.cells (ndRow (A.nd i2)) 65)).heap.size := by simp
      generalize w2.alloc (Obj.cells (ndRow (A.nd i2)) 65) = w3 at hB3 hbx hgl ⊢
      generalize w2.heap.size = g at hbx hgb hgl ⊢
      have x0 : w3.cell? ⟨g, 0, none⟩ = some (.int .i64 (A.nd i2).key) := by rw [cell_of_row _ _ _ _ _ _ hbx]; rfl
      have x1 : w3.cell? ⟨g, 1, none⟩ = some (.int .i64 (A.nd i2).val) := by rw [cell_of_row _ _ _ _ _ _ hbx]; rfl
      have x2 : w3.cell? ⟨g, 2, none⟩ = some (.int .u32 ((A.nd i2).left : Int)) := by rw [cell_of_row _ _ _ _ _ _ hbx]; rfl
      have x3 : w3.cell? ⟨g, 3, none⟩ = some (.int .u32 ((A.nd i2).right : Int)) := by rw [cell_of_row _ _ _ _ _ _ hbx]; rfl
      have x4 : w3.cell? ⟨g, 4, none⟩ = some (.int .i64 (A.nd i2).size) := by rw [cell_of_row _ _ _ _ _ _ hbx]; rfl
      have x5 : w3.cell? ⟨g, 5, none⟩ = some (.int .i64 (A.nd i2).sum) := by rw [cell_of_row _ _ _ _ _ _ hbx]; rfl
      have x6 : w3.cell? ⟨g, 6, none⟩ = some (.int .i64 (A.nd i2).mn) := by rw [cell_of_row _ _ _ _ _ _ hbx]; rfl
      have x7 : w3.cell? ⟨g, 7, none⟩ = some (.int .i64 (A.nd i2).mx) := by rw [cell_of_row _ _ _ _ _ _ hbx]; rfl
      have HX := Lib.hid hbx
      have HGL : Hid (b < g ∧ g < w3.heap.size) := ⟨hgb, hgl⟩
      have HB3 := Lib.hid hB3
      have HEN := Lib.hid (entry_any (A.nd i2) w3)
      have hg := HG.out
      clear hB3 hbx hgb hgl HB2 HG
      cases eq with
      | true =>
        rw [show k + (if true = true then 1 else 0) = k + 1 from rfl] at hg
        rcases Int.lt_trichotomy (A.nd i2).key k with h | h | h
        · have q1 : decide ((A.nd i2).key < k) = true := decide_eq_true (by omega)
          have q2 : decide ((A.nd i2).key > k) = false := decide_eq_false (by omega)
          have q3 : decide (k < (A.nd i2).key) = false := decide_eq_false (by omega)
          have q4 : ((A.nd i2).key == k) = false := by simp; omega
          rw [if_pos (by omega)] at hg
          clear h
          have HG := Lib.hid hg
          clear hg
          go_wp2_with fail
          refine HEN.out.mono ?_
          rintro e w4 ⟨rfl, hb4⟩
          have hx4 := (hb4.block g HGL.out.2).trans HX.out
          have hB4 := HB3.out.calm hb4
          clear x0 x1 x2 x3 x4 x5 x6 x7 hb4
          have x2 : w4.cell? ⟨g, 2, none⟩ = some (.int .u32 ((A.nd i2).left : Int)) := by rw [cell_of_row _ _ _ _ _ _ hx4]; rfl
          have x3 : w4.cell? ⟨g, 3, none⟩ = some (.int .u32 ((A.nd i2).right : Int)) := by rw [cell_of_row _ _ _ _ _ _ hx4]; rfl
          obtain ⟨c0, c1⟩ := two_ofE hB4.hb
          have f0 := frozen_of_row _ _ 0 _ _ hB4.hb
          have f1 := frozen_of_row _ _ 1 _ _ hB4.hb
          have hgne : g ≠ b := by have := HGL.out; omega
          have hgne2 : b ≠ g := by have := HGL.out; omega
          obtain ⟨X, hX⟩ : ∃ X, o.elim (0 : Int) (·.key) = X := ⟨_, rfl⟩
          obtain ⟨Y, hY⟩ : ∃ Y, o.elim (0 : Int) (·.val) = Y := ⟨_, rfl⟩
          rw [hX] at c0
          rw [hY] at c1
          have HE : Hid (Waybefore I w F (.pointer (some pa)) A rd k true R (rd + (t.ht : Int)) r b U (.bool true) (.int .u32 ((A.nd i2).right : Int)) (.int .i64 ((n + 1 : Nat) : Int)) ((w4.setCell ⟨b, 0, none⟩ (.int .i64 (A.nd i2).key)).setCell ⟨b, 1, none⟩ (.int .i64 (A.nd i2).val))) := ⟨_, n + 1, r2, rd1 + 1, some (ndE (A.nd i2)), rfl, rfl, rfl, HSR.out, HG.out, by have := HR1.out; omega, HR1.out.2.2, HNR.out, hB4.put (ndE (A.nd i2))⟩
          clear hx4 hB4 hX hY HX HB3 HEN HG
          go_wp2_with fail
          exact ⟨by rw [show ((n : Int) + 1) = ((n + 1 : Nat) : Int) by omega]; exact HE.out, by simp [intOf]; omega⟩
        · have q1 : decide ((A.nd i2).key < k) = false := decide_eq_false (by omega)
          have q2 : decide ((A.nd i2).key > k) = false := decide_eq_false (by omega)
          have q3 : decide (k < (A.nd i2).key) = false := decide_eq_false (by omega)
          have q4 : ((A.nd i2).key == k) = true := by simp; omega
          rw [if_pos (by omega)] at hg
          clear h
          have HG := Lib.hid hg
          clear hg
          go_wp2_with fail
          refine HEN.out.mono ?_
          rintro e w4 ⟨rfl, hb4⟩
          have hx4 := (hb4.block g HGL.out.2).trans HX.out
          have hB4 := HB3.out.calm hb4
          clear x0 x1 x2 x3 x4 x5 x6 x7 hb4
          have x2 : w4.cell? ⟨g, 2, none⟩ = some (.int .u32 ((A.nd i2).left : Int)) := by rw [cell_of_row _ _ _ _ _ _ hx4]; rfl
          have x3 : w4.cell? ⟨g, 3, none⟩ = some (.int .u32 ((A.nd i2).right : Int)) := by rw [cell_of_row _ _ _ _ _ _ hx4]; rfl
          obtain ⟨c0, c1⟩ := two_ofE hB4.hb
          have f0 := frozen_of_row _ _ 0 _ _ hB4.hb
          have f1 := frozen_of_row _ _ 1 _ _ hB4.hb
          have hgne : g ≠ b := by have := HGL.out; omega
          have hgne2 : b ≠ g := by have := HGL.out; omega
          obtain ⟨X, hX⟩ : ∃ X, o.elim (0 : Int) (·.key) = X := ⟨_, rfl⟩
          obtain ⟨Y, hY⟩ : ∃ Y, o.elim (0 : Int) (·.val) = Y := ⟨_, rfl⟩
          rw [hX] at c0
          rw [hY] at c1
          have HE : Hid (Waybefore I w F (.pointer (some pa)) A rd k true R (rd + (t.ht : Int)) r b U (.bool true) (.int .u32 ((A.nd i2).right : Int)) (.int .i64 ((n + 1 : Nat) : Int)) ((w4.setCell ⟨b, 0, none⟩ (.int .i64 (A.nd i2).key)).setCell ⟨b, 1, none⟩ (.int .i64 (A.nd i2).val))) := ⟨_, n + 1, r2, rd1 + 1, some (ndE (A.nd i2)), rfl, rfl, rfl, HSR.out, HG.out, by have := HR1.out; omega, HR1.out.2.2, HNR.out, hB4.put (ndE (A.nd i2))⟩
          clear hx4 hB4 hX hY HX HB3 HEN HG
          go_wp2_with fail
          exact ⟨by rw [show ((n : Int) + 1) = ((n + 1 : Nat) : Int) by omega]; exact HE.out, by simp [intOf]; omega⟩
        · have q1 : decide ((A.nd i2).key < k) = false := decide_eq_false (by omega)
          have q2 : decide ((A.nd i2).key > k) = true := decide_eq_true (by omega)
          have q3 : decide (k < (A.nd i2).key) = true := decide_eq_true (by omega)
          have q4 : ((A.nd i2).key == k) = false := by simp; omega
          rw [if_neg (by omega)] at hg
          clear h
          have HE : Hid (Waybefore I w F (.pointer (some pa)) A rd k true R (rd + (t.ht : Int)) r b U (.bool o.isSome) (.int .u32 ((A.nd i2).left : Int)) (.int .i64 ((n + 1 : Nat) : Int)) w3) := ⟨_, n + 1, l2, rd1 + 1, o, rfl, rfl, rfl, HSL.out, hg, by have := HR1.out; omega, HR1.out.2.1, HNL.out, HB3.out⟩
          generalize o.isSome = ob at HE ⊢
          clear hg HX HB3 HEN
          go_wp2_with fail
          exact ⟨by rw [show ((n : Int) + 1) = ((n + 1 : Nat) : Int) by omega]; exact HE.out, by simp [intOf]; omega⟩
      | false =>
        rw [show k + (if false = true then 1 else 0) = k + 0 from rfl] at hg
        rcases Int.lt_trichotomy (A.nd i2).key k with h | h | h
        · have q1 : decide ((A.nd i2).key < k) = true := decide_eq_true (by omega)
          have q2 : decide ((A.nd i2).key > k) = false := decide_eq_false (by omega)
          have q3 : decide (k < (A.nd i2).key) = false := decide_eq_false (by omega)
          have q4 : ((A.nd i2).key == k) = false := by simp; omega
          rw [if_pos (by omega)] at hg
          clear h
          have HG := Lib.hid hg
          clear hg
          go_wp2_with fail
          refine HEN.out.mono ?_
          rintro e w4 ⟨rfl, hb4⟩
          have hx4 := (hb4.block g HGL.out.2).trans HX.out
          have hB4 := HB3.out.calm hb4
          clear x0 x1 x2 x3 x4 x5 x6 x7 hb4
          have x2 : w4.cell? ⟨g, 2, none⟩ = some (.int .u32 ((A.nd i2).left : Int)) := by rw [cell_of_row _ _ _ _ _ _ hx4]; rfl
          have x3 : w4.cell? ⟨g, 3, none⟩ = some (.int .u32 ((A.nd i2).right : Int)) := by rw [cell_of_row _ _ _ _ _ _ hx4]; rfl
          obtain ⟨c0, c1⟩ := two_ofE hB4.hb
          have f0 := frozen_of_row _ _ 0 _ _ hB4.hb
          have f1 := frozen_of_row _ _ 1 _ _ hB4.hb
          have hgne : g ≠ b := by have := HGL.out; omega
          have hgne2 : b ≠ g := by have := HGL.out; omega
          obtain ⟨X, hX⟩ : ∃ X, o.elim (0 : Int) (·.key) = X := ⟨_, rfl⟩
          obtain ⟨Y, hY⟩ : ∃ Y, o.elim (0 : Int) (·.val) = Y := ⟨_, rfl⟩
          rw [hX] at c0
          rw [hY] at c1
          have HE : Hid (Waybefore I w F (.pointer (some pa)) A rd k false R (rd + (t.ht : Int)) r b U (.bool true) (.int .u32 ((A.nd i2).right : Int)) (.int .i64 ((n + 1 : Nat) : Int)) ((w4.setCell ⟨b, 0, none⟩ (.int .i64 (A.nd i2).key)).setCell ⟨b, 1, none⟩ (.int .i64 (A.nd i2).val))) := ⟨_, n + 1, r2, rd1 + 1, some (ndE (A.nd i2)), rfl, rfl, rfl, HSR.out, HG.out, by have := HR1.out; omega, HR1.out.2.2, HNR.out, hB4.put (ndE (A.nd i2))⟩
          clear hx4 hB4 hX hY HX HB3 HEN HG
          go_wp2_with fail
          exact ⟨by rw [show ((n : Int) + 1) = ((n + 1 : Nat) : Int) by omega]; exact HE.out, by simp [intOf]; omega⟩
        · have q1 : decide ((A.nd i2).key < k) = false := decide_eq_false (by omega)
          have q2 : decide ((A.nd i2).key > k) = false := decide_eq_false (by omega)
          have q3 : decide (k < (A.nd i2).key) = false := decide_eq_false (by omega)
          have q4 : ((A.nd i2).key == k) = true := by simp; omega
          rw [if_neg (by omega)] at hg
          clear h
          have HE : Hid (Waybefore I w F (.pointer (some pa)) A rd k false R (rd + (t.ht : Int)) r b U (.bool o.isSome) (.int .u32 ((A.nd i2).left : Int)) (.int .i64 ((n + 1 : Nat) : Int)) w3) := ⟨_, n + 1, l2, rd1 + 1, o, rfl, rfl, rfl, HSL.out, hg, by have := HR1.out; omega, HR1.out.2.1, HNL.out, HB3.out⟩
          generalize o.isSome = ob at HE ⊢
          clear hg HX HB3 HEN
          go_wp2_with fail
          exact ⟨by rw [show ((n : Int) + 1) = ((n + 1 : Nat) : Int) by omega]; exact HE.out, by simp [intOf]; omega⟩
        · have q1 : decide ((A.nd i2).key < k) = false := decide_eq_false (by omega)
          have q2 : decide ((A.nd i2).key > k) = true := decide_eq_true (by omega)
          have q3 : decide (k < (A.nd i2).key) = true := decide_eq_true (by omega)
          have q4 : ((A.nd i2).key == k) = false := by simp; omega
          rw [if_neg (by omega)] at hg
          clear h
          have HE : Hid (Waybefore I w F (.pointer (some pa)) A rd k false R (rd + (t.ht : Int)) r b U (.bool o.isSome) (.int .u32 ((A.nd i2).left : Int)) (.int .i64 ((n + 1 : Nat) : Int)) w3) := ⟨_, n + 1, l2, rd1 + 1, o, rfl, rfl, rfl, HSL.out, hg, by have := HR1.out; omega, HR1.out.2.1, HNL.out, HB3.out⟩
          generalize o.isSome = ob at HE ⊢
          clear hg HX HB3 HEN
          go_wp2_with fail
          exact ⟨by rw [show ((n : Int) + 1) = ((n + 1 : Nat) : Int) by omega]; exact HE.out, by simp [intOf]; omega⟩
theorem beforeP_any (I : AImpl) {p : Value} {A : Ar} {rd : Int} {F : Nat → Prop} {i : Nat} {t : Tr} {l : List En} (k : Int) (eq : Bool) (w : World) (hI : I.Is w p A rd F) (hT : TreeAt A i t l) (h0 : 0 ≤ rd) (h1 : rd ≤ 1099511627776) :
    Calls Tryz.prog 79 #[p, .int .u32 (i : Int), .int .i64 k, .bool eq] w (ReadsTo I p A rd F (mostI l.length) (enR (bef A.nd (k + if eq then 1 else 0) t none)) w) :=
  beforeH_any I (mostI l.length) k eq w hI hT h0 h1 hT.bound.1
def Wayafter (I : AImpl) (w : World) (F : Nat → Prop) (p : Value) (A : Ar) (rd0 : Int) (k : Int) (eq : Bool) (R : Option En) (top : Int) (r b U : Nat) (fd x c : Value) (wr : World) : Prop :=
  ∃ (i n : Nat) (u : Tr) (rd : Int) (o : Option En), fd = .bool o.isSome ∧ x = .int .u32 (i : Int) ∧ c = .int .i64 (n : Int) ∧ Sub A i u ∧ aft A.nd (k + if eq then 0 else 1) u o = R ∧ rd0 ≤ rd ∧ rd + (u.ht : Int) ≤ top ∧ n + u.size ≤ U ∧ BB I w F p A rd r b o wr
set_option maxHeartbeats 4000000 in
set_option maxRecDepth 100000 in
theorem afterH_any (I : AImpl) {p : Value} {A : Ar} {rd : Int} {F : Nat → Prop} {i : Nat} {t : Tr} {l : List En} (bd : Int) (k : Int) (eq : Bool) (w : World) (hI : I.Is w p A rd F) (hT : TreeAt A i t l) (h0 : 0 ≤ rd) (h1 : rd ≤ 1099511627776) (hbd : (t.ht : Int) ≤ bd) :
    Calls Tryz.prog 84 #[p, .int .u32 (i : Int), .int .i64 k, .bool eq] w (ReadsTo I p A rd F (bd) (enR (aft A.nd (k + if eq then 0 else 1) t none)) w) := by
  obtain ⟨pa, rfl⟩ := I.ptr hI
  have hin : (Tryz.prog.info? 34).map (·.size) = some 2 := by kernel_rfl
  have HINF := Lib.hid hin
  have HU : Hid _ := Lib.hid Tryz.underlying34
  have hb : (t.ht : Int) ≤ bd ∧ t.ht ≤ 65536 := ⟨hbd, hT.bound.2⟩
  clear hbd
  obtain ⟨R, hR⟩ : ∃ R, aft A.nd (k + if eq then 0 else 1) t none = R := ⟨_, rfl⟩
  rw [hR]
  obtain ⟨M, hM⟩ : ∃ M, bd = M := ⟨_, rfl⟩
  rw [hM] at hb ⊢
  obtain ⟨held, hv⟩ := hT.inv
  have hcap := hv.ok.cap2
  have hhd := hT.held
  obtain ⟨U, hUU⟩ : ∃ U, U + A.σ.free.length = A.σ.cap := ⟨A.σ.cap - A.σ.free.length, by omega⟩
  have HUU : Hid (U ≤ 65536 ∧ t.size ≤ U) := ⟨by omega, by omega⟩
  have HOK := Lib.hid hv.ok
  have HRD : Hid (0 ≤ rd ∧ rd ≤ 1099511627776 ∧ (t.ht : Int) ≤ M ∧ t.ht ≤ 65536) := ⟨h0, h1, hb.1, hb.2⟩
  have hbb := BB.start hI
  have HLP : Hid (∀ wx F1, I.Is wx (.pointer (some pa)) A rd F1 → Calls Tryz.prog 82 #[.pointer (some pa)] wx (Calm wx (.int .i64 (U : Int)))) := fun wx F1 h => longest_any I wx h hUU
  have HSUB := Lib.hid hT.sub
  have HRR := Lib.hid hR
  clear hI hT h0 h1 hb hR hM hv hin hcap hhd hUU
  go_enter Tryz.func84, Tryz.ntmps84
  go_upto_region 2 with fail
  generalize (w.alloc (Obj.cells #[.int .i64 0, .int .i64 0] 34)).alloc (Obj.cells #[.int .i64 0, .int .i64 0] 34) = w1 at hbb ⊢
  obtain ⟨r, hr⟩ : ∃ r, w.heap.size = r := ⟨_, rfl⟩
  rw [hr] at hbb ⊢
  generalize hb1 : r + 1 = b at hbb ⊢
  have HBB := Lib.hid hbb
  clear hbb hr hb1
  go_wp2_with fail
  obtain ⟨F1, f1, -, -⟩ := HBB.out.ins.mr.has
  refine (HLP.out w1 F1 f1).mono ?_
  rintro e w1' ⟨rfl, hb1'⟩
  have HW0 : Hid (Wayafter I w F (.pointer (some pa)) A rd k eq R (rd + (t.ht : Int)) r b U (.bool false) (.int .u32 (i : Int)) (.int .i64 0) w1') := ⟨i, 0, t, rd, none, rfl, rfl, rfl, HSUB.out, HRR.out, Int.le_refl _, Int.le_refl _, by have := HUU.out; omega, HBB.out.calm hb1'⟩
  clear f1 hb1' HBB HLP
  go_wp2_with fail
  go_loopw [11, 12, 18] (fun fd x c wr => Wayafter I w F (.pointer (some pa)) A rd k eq R (rd + (t.ht : Int)) r b U fd x c wr) (fun _ _ c _ => U - (intOf c).toNat)
  case atStart => exact HW0.out
  case round =>
    clear HW0
    obtain ⟨i, n, u, rd1, o, rfl, rfl, rfl, hu, hg, hr0, hr1, hn, hB⟩ := hrel
    rcases Nat.lt_or_ge n U with hnu | hnu
    rotate_left
    · have hnu2 : decide ((n : Int) < (U : Int)) = false := decide_eq_false (by omega)
      have hu0 : u = .nil := by
        cases u with
        | nil => rfl
        | node i l r =>
          have : (Tr.node i l r).size = l.size + r.size + 1 := rfl
          omega
      subst hu0
      have ho : o = R := hg
      subst ho
      have he := hB.ends hr0 (bd := M) (by have := HRD.out; omega)
      have hUn : ¬ n < U := Nat.not_lt.2 hnu
      clear hu hg hr0 hr1 hn hnu
      have HE := Lib.hid he
      obtain ⟨c0, c1⟩ := two_ofE hB.hb
      obtain ⟨r0, r1⟩ := two_ofE hB.hr
      have f0 := frozen_of_row _ _ 0 _ _ hB.hr
      have f1 := frozen_of_row _ _ 1 _ _ hB.hr
      have hne := hB.ne
      have hne2 : b ≠ r := fun e => hne e.symm
      obtain ⟨X, hX⟩ : ∃ X, o.elim (0 : Int) (·.key) = X := ⟨_, rfl⟩
      obtain ⟨Y, hY⟩ : ∃ Y, o.elim (0 : Int) (·.val) = Y := ⟨_, rfl⟩
      rw [hX] at c0 HE
      rw [hY] at c1 HE
      clear hB he hX hY
      go_wp2_with fail
      refine bodyPost_ret (results_row_tmp rfl _ _ r 34 #[.int .i64 X, .int .i64 Y] (0, 0) _ rfl HE.out.2 HU.out rfl HINF.out) rfl ?_
      exact HE.out.1
    have hnu2 : decide ((n : Int) < (U : Int)) = true := decide_eq_true (by omega)
    have hnu3 : (n : Int) < (U : Int) := by omega
    have hU4 : (U : Int) ≤ 65536 := by have := HUU.out.1; omega
    have hn0 : (0 : Int) ≤ (n : Int) := by omega
    cases u with
    | nil =>
      obtain rfl : i = 0 := by
        cases hu with
        | nil => rfl
      have ho : o = R := hg
      subst ho
      have HR1 : Hid (rd ≤ rd1 ∧ rd1 ≤ rd + (t.ht : Int)) := ⟨hr0, by have : (Tr.nil.ht : Nat) = 0 := rfl; omega⟩
      have HBB := Lib.hid hB
      clear hu hg hr0 hr1 hB hn
      go_wp2_with fail
      refine (HBB.out.ins.off (by have := HR1.out; have := HRD.out; omega) (by have := HR1.out; have := HRD.out; omega)).mono ?_
      rintro e w2 ⟨rfl, hin2, hk2⟩
      have hB2 := (HBB.out.step hin2 hk2).calm (below_new7 w2 (Obj.cells (ndRow Nd.zero) 65))
      clear hin2 hk2 HBB
      unfold ndRow
      go_upto_region 7 with fail
      rw [show #[Value.int .i64 Nd.zero.key, .int .i64 Nd.zero.val, .int .u32 (Nd.zero.left : Int), .int .u32 (Nd.zero.right : Int), .int .i64 Nd.zero.size, .int .i64 Nd.zero.sum, .int .i64 Nd.zero.mn, .int .i64 Nd.zero.mx] = ndRow Nd.zero from rfl]
      generalize w2.alloc (Obj.cells (ndRow Nd.zero) 65) = w3 at hB2 ⊢
      have hB := hB2
      clear hB2
      have he := hB.ends (rd0 := rd) (bd := M) HR1.out.1 (by have := HR1.out; have := HRD.out; omega)
      generalize w2.heap.size = g
      have HE := Lib.hid he
      obtain ⟨c0, c1⟩ := two_ofE hB.hb
      obtain ⟨r0, r1⟩ := two_ofE hB.hr
      have f0 := frozen_of_row _ _ 0 _ _ hB.hr
      have f1 := frozen_of_row _ _ 1 _ _ hB.hr
      have hne := hB.ne
      have hne2 : b ≠ r := fun e => hne e.symm
      obtain ⟨X, hX⟩ : ∃ X, o.elim (0 : Int) (·.key) = X := ⟨_, rfl⟩
      obtain ⟨Y, hY⟩ : ∃ Y, o.elim (0 : Int) (·.val) = Y := ⟨_, rfl⟩
      rw [hX] at c0 HE
      rw [hY] at c1 HE
      clear hB he hX hY
      go_wp2_with fail
      refine bodyPost_ret (results_row_tmp rfl _ _ r 34 #[.int .i64 X, .int .i64 Y] (0, 0) _ rfl HE.out.2 HU.out rfl HINF.out) rfl ?_
      exact HE.out.1
    | node i2 l2 r2 =>
      obtain ⟨rfl, h0, hon, hsl, hsr⟩ : i2 = i ∧ i ≠ 0 ∧ A.σ.on i = true ∧ Sub A (A.nd i).left l2 ∧ Sub A (A.nd i).right r2 := by
        cases hu with
        | node _ _ _ h1 h2 h3 h4 => exact ⟨rfl, h1, h2, h3, h4⟩
      have hi4 : i2 < 4294967296 := by have := HOK.out.on i2 hon; have := HOK.out.cap2; omega
      have hht : (Tr.node i2 l2 r2).ht = 1 + max l2.ht r2.ht := rfl
      rw [show (Tr.node i2 l2 r2).size = l2.size + r2.size + 1 from rfl] at hn
      have HNL : Hid (n + 1 + l2.size ≤ U) := by show _ ≤ _; omega
      have HNR : Hid (n + 1 + r2.size ≤ U) := by show _ ≤ _; omega
      have HSL := Lib.hid hsl
      have HSR := Lib.hid hsr
      have HON := Lib.hid hon
      have HI4 := Lib.hid hi4
      have HR1 : Hid (rd ≤ rd1 ∧ rd1 + 1 + (l2.ht : Int) ≤ rd + (t.ht : Int) ∧ rd1 + 1 + (r2.ht : Int) ≤ rd + (t.ht : Int)) := ⟨hr0, by omega, by omega⟩
      have HBB := Lib.hid hB
      unfold aft at hg
      have HG := Lib.hid hg
      clear hu hg hr0 hr1 hB h0 hon hsl hsr hi4 hht hn
      go_wp2_with fail
      refine (HBB.out.ins.node (by have := HR1.out; have := HRD.out; omega) (by have := HR1.out; have := HRD.out; omega) HI4.out HON.out).mono ?_
      rintro e w2 ⟨rfl, hin2, hk2⟩
      have HB2 := Lib.hid (HBB.out.step hin2 hk2)
      clear hin2 hk2 HBB
      unfold ndRow
      go_upto_region 7 with fail
      rw [show #[Value.int .i64 (A.nd i2).key, .int .i64 (A.nd i2).val, .int .u32 ((A.nd i2).left : Int), .int .u32 ((A.nd i2).right : Int), .int .i64 (A.nd i2).size, .int .i64 (A.nd i2).sum, .int .i64 (A.nd i2).mn, .int .i64 (A.nd i2).mx] = ndRow (A.nd i2) from rfl]
      have hB3 := HB2.out.calm (below_new7 w2 (Obj.cells (ndRow (A.nd i2)) 65))
      have hbx := heap_alloc_new w2 (Obj.cells (ndRow (A.nd i2)) 65)
      have hgb : b < w2.heap.size := HB2.out.ins.mr.lt (.inr (.inr rfl))
      have hgl : w2.heap.size < (w2.alloc (Obj.cells (ndRow (A.nd i2)) 65)).heap.size := by simp
      generalize w2.alloc (Obj.cells (ndRow (A.nd i2)) 65) = w3 at hB3 hbx hgl ⊢
      generalize w2.heap.size = g at hbx hgb hgl ⊢
      have x0 : w3.cell? ⟨g, 0, none⟩ = some (.int .i64 (A.nd i2).key) := by rw [cell_of_row _ _ _ _ _ _ hbx]; rfl
      have x1 : w3.cell? ⟨g, 1, none⟩ = some (.int .i64 (A.nd i2).val) := by rw [cell_of_row _ _ _ _ _ _ hbx]; rfl
      have x2 : w3.cell? ⟨g, 2, none⟩ = some (.int .u32 ((A.nd i2).left : Int)) := by rw [cell_of_row _ _ _ _ _ _ hbx]; rfl
      have x3 : w3.cell? ⟨g, 3, none⟩ = some (.int .u32 ((A.nd i2).right : Int)) := by rw [cell_of_row _ _ _ _ _ _ hbx]; rfl
      have x4 : w3.cell? ⟨g, 4, none⟩ = some (.int .i64 (A.nd i2).size) := by rw [cell_of_row _ _ _ _ _ _ hbx]; rfl
      have x5 : w3.cell? ⟨g, 5, none⟩ = some (.int .i64 (A.nd i2).sum) := by rw [cell_of_row _ _ _ _ _ _ hbx]; rfl
      have x6 : w3.cell? ⟨g, 6, none⟩ = some (.int .i64 (A.nd i2).mn) := by rw [cell_of_row _ _ _ _ _ _ hbx]; rfl
      have x7 : w3.cell? ⟨g, 7, none⟩ = some (.int .i64 (A.nd i2).mx) := by rw [cell_of_row _ _ _ _ _ _ hbx]; rfl
      have HX := Lib.hid hbx
      have HGL : Hid (b < g ∧ g < w3.heap.size) := ⟨hgb, hgl⟩
      have HB3 := Lib.hid hB3
      have HEN := Lib.hid (entry_any (A.nd i2) w3)
      have hg := HG.out
      clear hB3 hbx hgb hgl HB2 HG
      cases eq with
      | true =>
        rw [show k + (if true = true then 0 else 1) = k + 0 from rfl] at hg
        rcases Int.lt_trichotomy (A.nd i2).key k with h | h | h
        · have q1 : decide ((A.nd i2).key < k) = true := decide_eq_true (by omega)
          have q2 : decide ((A.nd i2).key > k) = false := decide_eq_false (by omega)
          have q3 : decide (k < (A.nd i2).key) = false := decide_eq_false (by omega)
          have q4 : ((A.nd i2).key == k) = false := by simp; omega
          rw [if_pos (by omega)] at hg
          clear h
          have HE : Hid (Wayafter I w F (.pointer (some pa)) A rd k true R (rd + (t.ht : Int)) r b U (.bool o.isSome) (.int .u32 ((A.nd i2).right : Int)) (.int .i64 ((n + 1 : Nat) : Int)) w3) := ⟨_, n + 1, r2, rd1 + 1, o, rfl, rfl, rfl, HSR.out, hg, by have := HR1.out; omega, HR1.out.2.2, HNR.out, HB3.out⟩
          generalize o.isSome = ob at HE ⊢
          clear hg HX HB3 HEN
          go_wp2_with fail
          exact ⟨by rw [show ((n : Int) + 1) = ((n + 1 : Nat) : Int) by omega]; exact HE.out, by simp [intOf]; omega⟩
        · have q1 : decide ((A.nd i2).key < k) = false := decide_eq_false (by omega)
          have q2 : decide ((A.nd i2).key > k) = false := decide_eq_false (by omega)
          have q3 : decide (k < (A.nd i2).key) = false := decide_eq_false (by omega)
          have q4 : ((A.nd i2).key == k) = true := by simp; omega
          rw [if_neg (by omega)] at hg
          clear h
          have HG := Lib.hid hg
          clear hg
          go_wp2_with fail
          refine HEN.out.mono ?_
          rintro e w4 ⟨rfl, hb4⟩
          have hx4 := (hb4.block g HGL.out.2).trans HX.out
          have hB4 := HB3.out.calm hb4
          clear x0 x1 x2 x3 x4 x5 x6 x7 hb4
          have x2 : w4.cell? ⟨g, 2, none⟩ = some (.int .u32 ((A.nd i2).left : Int)) := by rw [cell_of_row _ _ _ _ _ _ hx4]; rfl
          have x3 : w4.cell? ⟨g, 3, none⟩ = some (.int .u32 ((A.nd i2).right : Int)) := by rw [cell_of_row _ _ _ _ _ _ hx4]; rfl
          obtain ⟨c0, c1⟩ := two_ofE hB4.hb
          have f0 := frozen_of_row _ _ 0 _ _ hB4.hb
          have f1 := frozen_of_row _ _ 1 _ _ hB4.hb
          have hgne : g ≠ b := by have := HGL.out; omega
          have hgne2 : b ≠ g := by have := HGL.out; omega
          obtain ⟨X, hX⟩ : ∃ X, o.elim (0 : Int) (·.key) = X := ⟨_, rfl⟩
          obtain ⟨Y, hY⟩ : ∃ Y, o.elim (0 : Int) (·.val) = Y := ⟨_, rfl⟩
          rw [hX] at c0
          rw [hY] at c1
          have HE : Hid (Wayafter I w F (.pointer (some pa)) A rd k true R (rd + (t.ht : Int)) r b U (.bool true) (.int .u32 ((A.nd i2).left : Int)) (.int .i64 ((n + 1 : Nat) : Int)) ((w4.setCell ⟨b, 0, none⟩ (.int .i64 (A.nd i2).key)).setCell ⟨b, 1, none⟩ (.int .i64 (A.nd i2).val))) := ⟨_, n + 1, l2, rd1 + 1, some (ndE (A.nd i2)), rfl, rfl, rfl, HSL.out, HG.out, by have := HR1.out; omega, HR1.out.2.1, HNL.out, hB4.put (ndE (A.nd i2))⟩
          clear hx4 hB4 hX hY HX HB3 HEN HG
          go_wp2_with fail
          exact ⟨by rw [show ((n : Int) + 1) = ((n + 1 : Nat) : Int) by omega]; exact HE.out, by simp [intOf]; omega⟩
        · have q1 : decide ((A.nd i2).key < k) = false := decide_eq_false (by omega)
          have q2 : decide ((A.nd i2).key > k) = true := decide_eq_true (by omega)
          have q3 : decide (k < (A.nd i2).key) = true := decide_eq_true (by omega)
          have q4 : ((A.nd i2).key == k) = false := by simp; omega
          rw [if_neg (by omega)] at hg
          clear h
          have HG := Lib.hid hg
          clear hg
          go_wp2_with fail
          refine HEN.out.mono ?_
          rintro e w4 ⟨rfl, hb4⟩
          have hx4 := (hb4.block g HGL.out.2).trans HX.out
          have hB4 := HB3.out.calm hb4
          clear x0 x1 x2 x3 x4 x5 x6 x7 hb4
          have x2 : w4.cell? ⟨g, 2, none⟩ = some (.int .u32 ((A.nd i2).left : Int)) := by rw [cell_of_row _ _ _ _ _ _ hx4]; rfl
          have x3 : w4.cell? ⟨g, 3, none⟩ = some (.int .u32 ((A.nd i2).right : Int)) := by rw [cell_of_row _ _ _ _ _ _ hx4]; rfl
          obtain ⟨c0, c1⟩ := two_ofE hB4.hb
          have f0 := frozen_of_row _ _ 0 _ _ hB4.hb
          have f1 := frozen_of_row _ _ 1 _ _ hB4.hb
          have hgne : g ≠ b := by have := HGL.out; omega
          have hgne2 : b ≠ g := by have := HGL.out; omega
          obtain ⟨X, hX⟩ : ∃ X, o.elim (0 : Int) (·.key) = X := ⟨_, rfl⟩
          obtain ⟨Y, hY⟩ : ∃ Y, o.elim (0 : Int) (·.val) = Y := ⟨_, rfl⟩
          rw [hX] at c0
          rw [hY] at c1
          have HE : Hid (Wayafter I w F (.pointer (some pa)) A rd k true R (rd + (t.ht : Int)) r b U (.bool true) (.int .u32 ((A.nd i2).left : Int)) (.int .i64 ((n + 1 : Nat) : Int)) ((w4.setCell ⟨b, 0, none⟩ (.int .i64 (A.nd i2).key)).setCell ⟨b, 1, none⟩ (.int .i64 (A.nd i2).val))) := ⟨_, n + 1, l2, rd1 + 1, some (ndE (A.nd i2)), rfl, rfl, rfl, HSL.out, HG.out, by have := HR1.out; omega, HR1.out.2.1, HNL.out, hB4.put (ndE (A.nd i2))⟩
          clear hx4 hB4 hX hY HX HB3 HEN HG
          go_wp2_with fail
          exact ⟨by rw [show ((n : Int) + 1) = ((n + 1 : Nat) : Int) by omega]; exact HE.out, by simp [intOf]; omega⟩
      | false =>
        rw [show k + (if false = true then 0 else 1) = k + 1 from rfl] at hg
        rcases Int.lt_trichotomy (A.nd i2).key k with h | h | h
        · have q1 : decide ((A.nd i2).key < k) = true := decide_eq_true (by omega)
          have q2 : decide ((A.nd i2).key > k) = false := decide_eq_false (by omega)
          have q3 : decide (k < (A.nd i2).key) = false := decide_eq_false (by omega)
          have q4 : ((A.nd i2).key == k) = false := by simp; omega
          rw [if_pos (by omega)] at hg
          clear h
          have HE : Hid (Wayafter I w F (.pointer (some pa)) A rd k false R (rd + (t.ht : Int)) r b U (.bool o.isSome) (.int .u32 ((A.nd i2).right : Int)) (.int .i64 ((n + 1 : Nat) : Int)) w3) := ⟨_, n + 1, r2, rd1 + 1, o, rfl, rfl, rfl, HSR.out, hg, by have := HR1.out; omega, HR1.out.2.2, HNR.out, HB3.out⟩
          generalize o.isSome = ob at HE ⊢
          clear hg HX HB3 HEN
          go_wp2_with fail
          exact ⟨by rw [show ((n : Int) + 1) = ((n + 1 : Nat) : Int) by omega]; exact HE.out, by simp [intOf]; omega⟩
        · have q1 : decide ((A.nd i2).key < k) = false := decide_eq_false (by omega)
          have q2 : decide ((A.nd i2).key > k) = false := decide_eq_false (by omega)
          have q3 : decide (k < (A.nd i2).key) = false := decide_eq_false (by omega)
          have q4 : ((A.nd i2).key == k) = true := by simp; omega
          rw [if_pos (by omega)] at hg
          clear h
          have HE : Hid (Wayafter I w F (.pointer (some pa)) A rd k false R (rd + (t.ht : Int)) r b U (.bool o.isSome) (.int .u32 ((A.nd i2).right : Int)) (.int .i64 ((n + 1 : Nat) : Int)) w3) := ⟨_, n + 1, r2, rd1 + 1, o, rfl, rfl, rfl, HSR.out, hg, by have := HR1.out; omega, HR1.out.2.2, HNR.out, HB3.out⟩
          generalize o.isSome = ob at HE ⊢
          clear hg HX HB3 HEN
          go_wp2_with fail
          exact ⟨by rw [show ((n : Int) + 1) = ((n + 1 : Nat) : Int) by omega]; exact HE.out, by simp [intOf]; omega⟩
        · have q1 : decide ((A.nd i2).key < k) = false := decide_eq_false (by omega)
          have q2 : decide ((A.nd i2).key > k) = true := decide_eq_true (by omega)
          have q3 : decide (k < (A.nd i2).key) = true := decide_eq_true (by omega)
          have q4 : ((A.nd i2).key == k) = false := by simp; omega
          rw [if_neg (by omega)] at hg
          clear h
          have HG := Lib.hid hg
          clear hg
          go_wp2_with fail
          refine HEN.out.mono ?_
          rintro e w4 ⟨rfl, hb4⟩
          have hx4 := (hb4.block g HGL.out.2).trans HX.out
          have hB4 := HB3.out.calm hb4
          clear x0 x1 x2 x3 x4 x5 x6 x7 hb4
          have x2 : w4.cell? ⟨g, 2, none⟩ = some (.int .u32 ((A.nd i2).left : Int)) := by rw [cell_of_row _ _ _ _ _ _ hx4]; rfl
          have x3 : w4.cell? ⟨g, 3, none⟩ = some (.int .u32 ((A.nd i2).right : Int)) := by rw [cell_of_row _ _ _ _ _ _ hx4]; rfl
          obtain ⟨c0, c1⟩ := two_ofE hB4.hb
          have f0 := frozen_of_row _ _ 0 _ _ hB4.hb
          have f1 := frozen_of_row _ _ 1 _ _ hB4.hb
          have hgne : g ≠ b := by have := HGL.out; omega
          have hgne2 : b ≠ g := by have := HGL.out; omega
          obtain ⟨X, hX⟩ : ∃ X, o.elim (0 : Int) (·.key) = X := ⟨_, rfl⟩
          obtain ⟨Y, hY⟩ : ∃ Y, o.elim (0 : Int) (·.val) = Y := ⟨_, rfl⟩
          rw [hX] at c0
          rw [hY] at c1
          have HE : Hid (Wayafter I w F (.pointer (some pa)) A rd k false R (rd + (t.ht : Int)) r b U (.bool true) (.int .u32 ((A.nd i2).left : Int)) (.int .i64 ((n + 1 : Nat) : Int)) ((w4.setCell ⟨b, 0, none⟩ (.int .i64 (A.nd i2).key)).setCell ⟨b, 1, none⟩ (.int .i64 (A.nd i2).val))) := ⟨_, n + 1, l2, rd1 + 1, some (ndE (A.nd i2)), rfl, rfl, rfl, HSL.out, HG.out, by have := HR1.out; omega, HR1.out.2.1, HNL.out, hB4.put (ndE (A.nd i2))⟩
          clear hx4 hB4 hX hY HX HB3 HEN HG
          go_wp2_with fail
          exact ⟨by rw [show ((n : Int) + 1) = ((n + 1 : Nat) : Int) by omega]; exact HE.out, by simp [intOf]; omega⟩
theorem afterP_any (I : AImpl) {p : Value} {A : Ar} {rd : Int} {F : Nat → Prop} {i : Nat} {t : Tr} {l : List En} (k : Int) (eq : Bool) (w : World) (hI : I.Is w p A rd F) (hT : TreeAt A i t l) (h0 : 0 ≤ rd) (h1 : rd ≤ 1099511627776) :
    Calls Tryz.prog 84 #[p, .int .u32 (i : Int), .int .i64 k, .bool eq] w (ReadsTo I p A rd F (mostI l.length) (enR (aft A.nd (k + if eq then 0 else 1) t none)) w) :=
  afterH_any I (mostI l.length) k eq w hI hT h0 h1 hT.bound.1
end Go.Proofs.YtnimbgcploohiaaGreat
set_option linter.unusedVariables false
set_option linter.unusedSimpArgs false
namespace Go.Proofs.YtnimbgcploohiaaGreat
open Go.RowKit
theorem rank_node {A B : List En} {e : En} (h : Up (A ++ e :: B)) (k : Int) : rankE (A ++ e :: B) k = if e.key < k then A.length + 1 + rankE B k else rankE A k := by
  obtain ⟨h1, h2, h3, h4⟩ := up_app h
  rw [rankE_app, rankE_cons]
  by_cases hk : e.key < k
  · rw [if_pos hk, if_pos hk, rankE_all (A := A) (fun x hx => by have := h3 x hx; omega)]; omega
  · rw [if_neg hk, if_neg hk, rankE_zero (t := B) (fun y hy => by have := h4 y hy; omega)]; omega
theorem TreeAt.len {A : Ar} {i : Nat} {t : Tr} {l : List En} (h : TreeAt A i t l) : l.length ≤ 65536 := by
  obtain ⟨held, hv⟩ := h.inv
  have := h.held
  have := hv.ok.cap2
  rw [← h.size]
  omega
section
variable {I : AImpl} {w wr wx : World} {F : Nat → Prop} {p : Value} {A : Ar} {rd : Int} {X : Nat → Prop}
theorem In.sizeOf (h : In I w F p A rd X wr) (ha : A.Agg) (h0 : 0 ≤ rd) (h1 : rd ≤ 4398046511104) {i : Nat} {u : Tr} (hu : Sub A i u) (hi : i < 4294967296) :
    Calls Tryz.prog 24 #[p, .int .u32 (i : Int)] wr fun e w' => e = .returned (.int .i64 (u.size : Int)) ∧ ∃ rd', In I w F p A rd' X w' ∧ Keeps X wr w' ∧ rd ≤ rd' ∧ rd' ≤ rd + 1 := by
  obtain ⟨F1, f1, f2, f3⟩ := h.mr.has
  refine (I.size p A rd F1 i wr f1 h0 (by omega) hi).mono ?_
  rintro e w1 ⟨F', hal, h5, h6⟩
  cases hc : A.σ.on i with
  | false =>
    obtain ⟨rfl, h7⟩ := h5 hc
    have hst := h.mr.step f2 f3 hal h7
    have hs : u.size = 0 := by
      cases hu with
      | nil => rfl
      | node _ _ _ h1 h2 h3 h4 => rw [hc] at h2; cases h2
    exact ⟨by rw [hs]; rfl, rd, ⟨hst.1, fun k hk => (hst.2 k (.inl hk)).trans (h.kp k hk)⟩, fun k hk => hst.2 k (.inr hk), by omega, by omega⟩
  | true =>
    obtain ⟨rfl, h7⟩ := h6 hc
    have hst := h.mr.step f2 f3 hal h7
    have hs : (A.nd i).size = (u.size : Int) := by
      have hh := hu.size ha
      have h9 : i ≠ 0 := by have := (I.ok f1).on i hc; omega
      unfold Ar.sz at hh
      rw [if_neg h9] at hh
      omega
    exact ⟨by rw [hs], rd + 1, ⟨hst.1, fun k hk => (hst.2 k (.inl hk)).trans (h.kp k hk)⟩, fun k hk => hst.2 k (.inr hk), by omega, by omega⟩
end
theorem longestR_any (I : AImpl) {p : Value} {A : Ar} {rd : Int} {F : Nat → Prop} {U : Nat} (w : World) (hI : I.Is w p A rd F) (hU : U + A.σ.free.length = A.σ.cap) :
    Calls Tryz.prog 101 #[p] w (Calm w (.int .i64 (U : Int))) := by
  obtain ⟨pa, rfl⟩ := I.ptr hI
  have hcap := (I.ok hI).cap2
  have hw64 : IntKind.i64.wrap ((A.σ.cap : Int) - (A.σ.free.length : Int)) = (U : Int) := by rw [IntKind.wrap_i64]; omega
  have HCP : Hid (∀ w', Below w.heap.size w w' → Calls Tryz.prog 95 #[.pointer (some pa)] w' (Quiet w' (.int .i64 (A.σ.cap : Int)))) := fun w' hb => I.capacity _ _ _ _ _ (I.below hI hb)
  have HFR : Hid (∀ w', Below w.heap.size w w' → Calls Tryz.prog 19 #[.pointer (some pa)] w' (Quiet w' (.int .i64 (A.σ.free.length : Int)))) := fun w' hb => I.freeN _ _ _ _ _ (I.below hI hb)
  clear hI hU hcap
  go_enter Tryz.func101, Tryz.ntmps101
  go_wp2_with fail
  refine (HCP.out w (Below.refl _ _)).mono ?_
  rintro e w2 ⟨rfl, n2, hn2⟩
  have hb2 : Below w.heap.size w w2 := by rw [hn2]; exact below_drewN (Below.refl _ _) n2
  clear hn2
  go_wp2_with fail
  refine (HFR.out w2 hb2).mono ?_
  rintro e w3 ⟨rfl, n3, hn3⟩
  have hb3 : Below w.heap.size w w3 := hb2.trans ((by rw [hn3]; exact below_drewN (Below.refl _ _) n3 : Below w2.heap.size w2 w3).mono hb2.size)
  have HB3 := Lib.hid hb3
  clear hn3 hb2 hb3 HCP HFR
  go_wp2_with fail
  go_ret
  exact ⟨rfl, HB3.out⟩
def WayC (I : AImpl) (w : World) (F : Nat → Prop) (p : Value) (A : Ar) (rd0 kk : Int) (R : Nat) (top : Int) (U : Nat) (cv x c : Value) (wr : World) : Prop :=
  ∃ (i n m : Nat) (u : Tr) (rd : Int), cv = .int .i64 (m : Int) ∧ x = .int .u32 (i : Int) ∧ c = .int .i64 (n : Int) ∧ Sub A i u ∧ Up (u.ents A.nd) ∧ m + rankE (u.ents A.nd) kk = R ∧ rd0 ≤ rd ∧ rd + 2 * (u.ht : Int) ≤ top ∧ n + u.size ≤ U ∧ In I w F p A rd (fun _ => False) wr
set_option maxHeartbeats 4000000 in
set_option maxRecDepth 100000 in
theorem countB_any (I : AImpl) {p : Value} {A : Ar} {rd : Int} {F : Nat → Prop} {i : Nat} {t : Tr} {l : List En} (k : Int) (eq : Bool) (w : World) (hI : I.Is w p A rd F) (hT : TreeAt A i t l) (h0 : 0 ≤ rd) (h1 : rd ≤ 1099511628776) :
    Calls Tryz.prog 71 #[p, .int .u32 (i : Int), .int .i64 k, .bool eq] w (ReadsTo I p A rd F (mostJ l.length) (.int .i64 (rankE l (k + if eq then 1 else 0) : Int)) w) := by
  obtain ⟨pa, rfl⟩ := I.ptr hI
  have hb := hT.bound
  obtain ⟨kk, hkk⟩ : ∃ kk, k + (if eq then 1 else 0) = kk := ⟨_, rfl⟩
  rw [hkk]
  have hRL := rankE_le l kk
  have hLL := hT.len
  obtain ⟨R, hR⟩ : ∃ R, rankE l kk = R := ⟨_, rfl⟩
  rw [hR] at hRL ⊢
  have hM2 : 2 * (t.ht : Int) ≤ mostJ l.length := by have := hb.1; unfold mostI at this; unfold mostJ; have := (xh_spec (n := l.length) (by omega)).2.1; have h8 := hT.ht (by omega); omega
  obtain ⟨M, hM⟩ : ∃ M, mostJ l.length = M := ⟨_, rfl⟩
  rw [hM] at hM2 ⊢
  obtain ⟨held, hv⟩ := hT.inv
  have hcap := hv.ok.cap2
  have hhd := hT.held
  obtain ⟨U, hU⟩ : ∃ U, U + A.σ.free.length = A.σ.cap := ⟨A.σ.cap - A.σ.free.length, by omega⟩
  have HLP := Lib.hid (longestR_any I w hI hU)
  have HU : Hid (U ≤ 65536 ∧ t.size ≤ U ∧ R ≤ 65536) := ⟨by omega, by omega, by omega⟩
  have HAG := Lib.hid hT.agg
  have HOK := Lib.hid hv.ok
  have HRD : Hid (0 ≤ rd ∧ rd ≤ 1099511628776 ∧ 2 * (t.ht : Int) ≤ M ∧ t.ht ≤ 65536) := ⟨h0, h1, hM2, hb.2⟩
  have HW0 : Hid (∀ w', Below w.heap.size w w' → WayC I w F (.pointer (some pa)) A rd kk R (rd + 2 * (t.ht : Int)) U (.int .i64 0) (.int .u32 (i : Int)) (.int .i64 0) w') := fun w' hb' => ⟨i, 0, 0, t, rd, rfl, rfl, rfl, hT.sub, by rw [hT.ents]; exact hT.up, by rw [hT.ents, hR]; omega, Int.le_refl _, Int.le_refl _, by omega, (In.start hI).calm hb'⟩
  have HKK := Lib.hid hkk
  clear hI hT h0 h1 hkk hb hR hM hv hcap hhd hU hRL hLL hM2
  go_enter Tryz.func71, Tryz.ntmps71
  go_wp2_with fail
  refine HLP.out.mono ?_
  rintro e w0 ⟨rfl, hb0⟩
  have HW1 := Lib.hid (HW0.out w0 hb0)
  clear hb0 HW0 HLP
  go_wp2_with fail
  go_loopw [9, 10, 16] (fun cv x c wr => WayC I w F (.pointer (some pa)) A rd kk R (rd + 2 * (t.ht : Int)) U cv x c wr) (fun _ _ c _ => U - (intOf c).toNat)
  case atStart => exact HW1.out
  case round =>
    clear HW1
    obtain ⟨i, n, m, u, rd1, rfl, rfl, rfl, hu, hup, hg, hr0, hr1, hn, hin⟩ := hrel
    rcases Nat.lt_or_ge n U with hnu | hnu
    rotate_left
    · have hnu2 : decide ((n : Int) < (U : Int)) = false := decide_eq_false (by omega)
      have hu0 : u = .nil := by
        cases u with
        | nil => rfl
        | node i l r =>
          have : (Tr.node i l r).size = l.size + r.size + 1 := rfl
          omega
      subst hu0
      obtain rfl : m = R := hg
      have HE : Hid (ReadsTo I (.pointer (some pa)) A rd F M (.int .i64 (m : Int)) w (.returned (.int .i64 (m : Int))) wr) := hin.ends hr0 (by have := HRD.out; omega)
      have hUn : ¬ n < U := Nat.not_lt.2 hnu
      clear hu hup hr0 hr1 hin hn hnu
      go_wp2_with fail
      go_ret
      exact HE.out
    have hnu2 : decide ((n : Int) < (U : Int)) = true := decide_eq_true (by omega)
    have hnu3 : (n : Int) < (U : Int) := by omega
    have hU4 : (U : Int) ≤ 65536 := by have := HU.out.1; omega
    have hn0 : (0 : Int) ≤ (n : Int) := by omega
    cases u with
    | nil =>
      obtain rfl : i = 0 := by
        cases hu with
        | nil => rfl
      obtain rfl : m = R := hg
      have HR1 : Hid (rd ≤ rd1 ∧ rd1 ≤ rd + 2 * (t.ht : Int)) := ⟨hr0, by have : (Tr.nil.ht : Nat) = 0 := rfl; omega⟩
      have HIN := Lib.hid hin
      clear hu hup hr0 hr1 hin hn
      go_wp2_with fail
      refine (HIN.out.off (by have := HR1.out; have := HRD.out; omega) (by have := HR1.out; have := HRD.out; omega)).mono ?_
      rintro e w1 ⟨rfl, hin1, -⟩
      have HIN1 := Lib.hid (hin1.calm (below_new7 w1 (Obj.cells (ndRow Nd.zero) 65)))
      clear hin1 HIN
      unfold ndRow
      go_upto_region 6 with fail
      rw [show #[Value.int .i64 Nd.zero.key, .int .i64 Nd.zero.val, .int .u32 (Nd.zero.left : Int), .int .u32 (Nd.zero.right : Int), .int .i64 Nd.zero.size, .int .i64 Nd.zero.sum, .int .i64 Nd.zero.mn, .int .i64 Nd.zero.mx] = ndRow Nd.zero from rfl]
      generalize w1.alloc (Obj.cells (ndRow Nd.zero) 65) = w2 at HIN1 ⊢
      have HE : Hid (ReadsTo I (.pointer (some pa)) A rd F M (.int .i64 (m : Int)) w (.returned (.int .i64 (m : Int))) w2) := HIN1.out.ends HR1.out.1 (by have := HR1.out; have := HRD.out; omega)
      clear HIN1
      go_wp2_with fail
      go_ret
      exact HE.out
    | node i2 l2 r2 =>
      obtain ⟨rfl, h0, hon, hsl, hsr⟩ : i2 = i ∧ i ≠ 0 ∧ A.σ.on i = true ∧ Sub A (A.nd i).left l2 ∧ Sub A (A.nd i).right r2 := by
        cases hu with
        | node _ _ _ h1 h2 h3 h4 => exact ⟨rfl, h1, h2, h3, h4⟩
      have hi4 : i2 < 4294967296 := by have := HOK.out.on i2 hon; have := HOK.out.cap2; omega
      have hl4 : (A.nd i2).left < 4294967296 := by rcases hsl.idx with h9 | h9; omega; have := HOK.out.on _ h9; have := HOK.out.cap2; omega
      have hht : (Tr.node i2 l2 r2).ht = 1 + max l2.ht r2.ht := rfl
      rw [show (Tr.node i2 l2 r2).size = l2.size + r2.size + 1 from rfl] at hn
      rw [Tr.ents_node] at hup hg
      rw [rank_node hup, Tr.ents_len] at hg
      obtain ⟨hul, hur, -, -⟩ := up_app hup
      have HUL := Lib.hid hul
      have HUR := Lib.hid hur
      have HSL := Lib.hid hsl
      have HSR := Lib.hid hsr
      have HON := Lib.hid hon
      have HI4 : Hid (i2 < 4294967296 ∧ (A.nd i2).left < 4294967296) := ⟨hi4, hl4⟩
      have HNN : Hid (n + 1 + l2.size ≤ U ∧ n + 1 + r2.size ≤ U ∧ l2.size ≤ 65536) := ⟨by omega, by omega, by have := HU.out; omega⟩
      have HR1 : Hid (rd ≤ rd1 ∧ rd1 + 2 + 2 * (l2.ht : Int) ≤ rd + 2 * (t.ht : Int) ∧ rd1 + 2 + 2 * (r2.ht : Int) ≤ rd + 2 * (t.ht : Int)) := ⟨hr0, by omega, by omega⟩
      have HIN := Lib.hid hin
      have HG := Lib.hid hg
      clear hu hup hul hur hg hr0 hr1 hin h0 hon hsl hsr hi4 hl4 hht hn
      go_wp2_with fail
      refine (HIN.out.node (by have := HR1.out; have := HRD.out; omega) (by have := HR1.out; have := HRD.out; omega) HI4.out.1 HON.out).mono ?_
      rintro e w1 ⟨rfl, hin1, -⟩
      have HIN1 := Lib.hid hin1
      clear hin1 HIN
      unfold ndRow
      go_upto_region 6 with fail
      rw [show #[Value.int .i64 (A.nd i2).key, .int .i64 (A.nd i2).val, .int .u32 ((A.nd i2).left : Int), .int .u32 ((A.nd i2).right : Int), .int .i64 (A.nd i2).size, .int .i64 (A.nd i2).sum, .int .i64 (A.nd i2).mn, .int .i64 (A.nd i2).mx] = ndRow (A.nd i2) from rfl]
      have hin2 := HIN1.out.alloc (Obj.cells (ndRow (A.nd i2)) 65)
      have hbx := heap_alloc_new w1 (Obj.cells (ndRow (A.nd i2)) 65)
      generalize w1.alloc (Obj.cells (ndRow (A.nd i2)) 65) = w2 at hin2 hbx ⊢
      generalize w1.heap.size = g at hin2 hbx ⊢
      have x0 : w2.cell? ⟨g, 0, none⟩ = some (.int .i64 (A.nd i2).key) := by rw [cell_of_row _ _ _ _ _ _ hbx]; rfl
      have x2 : w2.cell? ⟨g, 2, none⟩ = some (.int .u32 ((A.nd i2).left : Int)) := by rw [cell_of_row _ _ _ _ _ _ hbx]; rfl
      have x3 : w2.cell? ⟨g, 3, none⟩ = some (.int .u32 ((A.nd i2).right : Int)) := by rw [cell_of_row _ _ _ _ _ _ hbx]; rfl
      have HX := Lib.hid hbx
      have HIN2 := Lib.hid hin2
      clear hin2 hbx HIN1
      have hg := HG.out
      have hkk := HKK.out
      have hlt : (A.nd i2).key < kk ∨ ¬ (A.nd i2).key < kk := by omega
      rcases hlt with hlt | hlt
      · rw [if_pos hlt] at hg
        have hm1 : m + l2.size + 1 ≤ 65536 := by have := HU.out; omega
        obtain ⟨m2, hm2⟩ : ∃ m2, m + (l2.size + 1) = m2 := ⟨_, rfl⟩
        have HG2 : Hid (m2 + rankE (r2.ents A.nd) kk = R) := by show _ = _; omega
        have hwr1 : IntKind.i64.wrap ((l2.size : Int) + 1) = (l2.size : Int) + 1 := by rw [IntKind.wrap_i64]; omega
        have hwr2 : IntKind.i64.wrap ((m : Int) + ((l2.size : Int) + 1)) = (m2 : Int) := by rw [IntKind.wrap_i64]; omega
        have hend : ∀ w3, (∃ rd', In I w F (.pointer (some pa)) A rd' (fun k => (fun _ => False) k ∨ k = g) w3 ∧ rd1 + 1 ≤ rd' ∧ rd' ≤ rd1 + 2) → WayC I w F (.pointer (some pa)) A rd kk R (rd + 2 * (t.ht : Int)) U (.int .i64 (m2 : Int)) (.int .u32 ((A.nd i2).right : Int)) (.int .i64 ((n + 1 : Nat) : Int)) w3 := by
          rintro w3 ⟨rd', h3, h4, h5⟩
          exact ⟨_, n + 1, _, r2, rd', rfl, rfl, rfl, HSR.out, HUR.out, HG2.out, by have := HR1.out; omega, by have := HR1.out; omega, HNN.out.2.1, h3.less fun k hk => hk.elim⟩
        have HEND := Lib.hid hend
        have HLS := Lib.hid (HIN2.out.sizeOf HAG.out (by have := HR1.out; have := HRD.out; omega) (by have := HR1.out; have := HRD.out; omega) HSL.out HI4.out.2)
        have HQ : Hid ((A.nd i2).key < k ∨ (eq = true ∧ (A.nd i2).key = k)) := by
          show _ ∨ _
          cases eq with
          | true => rcases Int.lt_trichotomy (A.nd i2).key k with h | h | h; exact .inl h; exact .inr ⟨rfl, h⟩; (simp at hkk; omega)
          | false => left; simp at hkk; omega
        clear hlt hg hkk hm1 hm2 hend
        rcases HQ.out with hq | ⟨rfl, hq⟩
        · have q1 : decide ((A.nd i2).key < k) = true := decide_eq_true hq
          have q4 : ((A.nd i2).key == k) = false := by simp; omega
          clear hq HQ
          cases eq
          all_goals
            go_wp2_with fail
            refine HLS.out.mono ?_
            rintro e w3 ⟨rfl, rd3, hin3, hk3, h31, h32⟩
            have hx3 := (hk3 g (.inr rfl)).trans HX.out
            clear x0 x2 x3
            have x3 : w3.cell? ⟨g, 3, none⟩ = some (.int .u32 ((A.nd i2).right : Int)) := by rw [cell_of_row _ _ _ _ _ _ hx3]; rfl
            have HE3 := Lib.hid (HEND.out w3 ⟨rd3, hin3, h31, by omega⟩)
            clear hin3 hk3 h31 h32 hx3 HEND HLS HX HIN2
            go_wp2_with fail
            exact ⟨by rw [show ((n : Int) + 1) = ((n + 1 : Nat) : Int) by omega]; exact HE3.out, by simp [intOf]; omega⟩
        · have q1 : decide ((A.nd i2).key < k) = false := decide_eq_false (by omega)
          have q4 : ((A.nd i2).key == k) = true := by simp; omega
          clear hq HQ
          go_wp2_with fail
          refine HLS.out.mono ?_
          rintro e w3 ⟨rfl, rd3, hin3, hk3, h31, h32⟩
          have hx3 := (hk3 g (.inr rfl)).trans HX.out
          clear x0 x2 x3
          have x3 : w3.cell? ⟨g, 3, none⟩ = some (.int .u32 ((A.nd i2).right : Int)) := by rw [cell_of_row _ _ _ _ _ _ hx3]; rfl
          have HE3 := Lib.hid (HEND.out w3 ⟨rd3, hin3, h31, by omega⟩)
          clear hin3 hk3 h31 h32 hx3 HEND HLS HX HIN2
          go_wp2_with fail
          exact ⟨by rw [show ((n : Int) + 1) = ((n + 1 : Nat) : Int) by omega]; exact HE3.out, by simp [intOf]; omega⟩
      · rw [if_neg hlt] at hg
        have HE : Hid (WayC I w F (.pointer (some pa)) A rd kk R (rd + 2 * (t.ht : Int)) U (.int .i64 (m : Int)) (.int .u32 ((A.nd i2).left : Int)) (.int .i64 ((n + 1 : Nat) : Int)) w2) :=
          ⟨_, n + 1, m, l2, rd1 + 1, rfl, rfl, rfl, HSL.out, HUL.out, hg, by have := HR1.out; omega, by have := HR1.out; omega, HNN.out.1, HIN2.out.less fun k hk => hk.elim⟩
        have q1 : decide ((A.nd i2).key < k) = false := decide_eq_false (by cases eq <;> simp at hkk <;> omega)
        cases eq with
        | true =>
          have q4 : ((A.nd i2).key == k) = false := by simp; simp at hkk; omega
          clear hg hkk hlt HX HIN2
          go_wp2_with fail
          exact ⟨by rw [show ((n : Int) + 1) = ((n + 1 : Nat) : Int) by omega]; exact HE.out, by simp [intOf]; omega⟩
        | false =>
          clear hg hkk hlt HX HIN2
          go_wp2_with fail
          exact ⟨by rw [show ((n : Int) + 1) = ((n + 1 : Nat) : Int) by omega]; exact HE.out, by simp [intOf]; omega⟩
end Go.Proofs.YtnimbgcploohiaaGreat
set_option linter.unusedVariables false
set_option linter.unusedSimpArgs false
namespace Go.Proofs.YtnimbgcploohiaaGreat
open Go.RowKit
theorem cnt_ranks (l : List En) {lo hi : Int} (h : lo ≤ hi) : (rankE l (hi + 1) : Int) - (rankE l lo : Int) = (cntE l lo hi : Int) := by
  have := cnt_rank l h
  omega
set_option maxRecDepth 100000 in
theorem countP_any (I : AImpl) {p : Value} {A : Ar} {rd : Int} {F : Nat → Prop} {i : Nat} {t : Tr} {l : List En} (lo hi : Int) (w : World) (hI : I.Is w p A rd F) (hT : TreeAt A i t l) (h0 : 0 ≤ rd) (h1 : rd ≤ 1099511627776) (hlo : i64R lo) (hhi : i64R hi) :
    Calls Tryz.prog 37 #[p, .int .u32 (i : Int), .int .i64 lo, .int .i64 hi] w (ReadsTo I p A rd F (2 * mostJ l.length) (.int .i64 (cntE l lo hi : Int)) w) := by
  obtain ⟨pa, rfl⟩ := I.ptr hI
  have hM := mostJ_le (n := l.length) (by have := hT.len; omega)
  rcases Int.lt_or_le hi lo with hlt | hlt
  · have q1 : decide (lo > hi) = true := decide_eq_true hlt
    have q2 : decide (hi < lo) = true := decide_eq_true hlt
    have HE : Hid (∀ w', Below w.heap.size w w' → ReadsTo I (.pointer (some pa)) A rd F (2 * mostJ l.length) (.int .i64 (cntE l lo hi : Int)) w (.returned (.int .i64 0)) w') := fun w' hb => by
      rw [cnt_none l hlt]
      exact ((In.start hI).calm hb).ends (Int.le_refl _) (by omega)
    clear hI hT h0 h1 hlo hhi hM
    go_enter Tryz.func37, Tryz.ntmps37
    go_wp2_with fail
    go_ret
    exact HE.out w (Below.refl _ _)
  · have q1 : decide (lo > hi) = false := decide_eq_false (by omega)
    have q2 : decide (hi < lo) = false := decide_eq_false (by omega)
    have HC1 : Hid (∀ wx F1, I.Is wx (.pointer (some pa)) A rd F1 → Calls Tryz.prog 71 #[.pointer (some pa), .int .u32 (i : Int), .int .i64 hi, .bool true] wx (ReadsTo I (.pointer (some pa)) A rd F1 (mostJ l.length) (.int .i64 (rankE l (hi + 1) : Int)) wx)) := fun wx F1 hI1 => countB_any I hi true wx hI1 hT h0 (by omega)
    have HC2 : Hid (∀ rd1 wx F1, rd ≤ rd1 → rd1 ≤ rd + mostJ l.length → I.Is wx (.pointer (some pa)) A rd1 F1 → Calls Tryz.prog 71 #[.pointer (some pa), .int .u32 (i : Int), .int .i64 lo, .bool false] wx (ReadsTo I (.pointer (some pa)) A rd1 F1 (mostJ l.length) (.int .i64 (rankE l lo : Int)) wx)) := fun rd1 wx F1 h2 h3 hI1 => by
      have := countB_any I lo false wx hI1 hT (by omega) (by omega)
      rwa [show lo + (if false = true then 1 else 0) = lo from by simp] at this
    have hv := cnt_ranks l hlt
    have h8 := rankE_le l (hi + 1)
    have h9 := rankE_le l lo
    have hL := hT.len
    generalize rankE l (hi + 1) = R1 at HC1 hv h8
    generalize rankE l lo = R2 at HC2 hv h9
    generalize cntE l lo hi = V at hv ⊢
    have hwr : IntKind.i64.wrap ((R1 : Int) - (R2 : Int)) = (V : Int) := by rw [IntKind.wrap_i64]; omega
    have HIN := Lib.hid (In.start hI)
    generalize hm : mostJ l.length = M at HC1 HC2 hM ⊢
    clear hI hT h0 h1 hlo hhi hv h8 h9 hL hlt hm hM
    go_enter Tryz.func37, Tryz.ntmps37
    go_wp2_with fail
    refine (HIN.out.call fun F1 hI1 => HC1.out w F1 hI1).mono ?_
    rintro e w1 ⟨rfl, rd1, hin1, -, h10, h11⟩
    have HIN1 := Lib.hid hin1
    have HR1 : Hid (rd ≤ rd1 ∧ rd1 ≤ rd + M) := ⟨h10, h11⟩
    clear hin1 h10 h11 HIN HC1
    go_wp2_with fail
    refine (HIN1.out.call fun F1 hI1 => HC2.out rd1 w1 F1 HR1.out.1 HR1.out.2 hI1).mono ?_
    rintro e w2 ⟨rfl, rd2, hin2, -, h20, h21⟩
    have HE : Hid (ReadsTo I (.pointer (some pa)) A rd F (2 * M) (.int .i64 (V : Int)) w (.returned (.int .i64 (V : Int))) w2) := hin2.ends (by have := HR1.out; omega) (by have := HR1.out; omega)
    clear hin2 h20 h21 HIN1 HC2
    go_wp2_with fail
    go_ret
    exact HE.out
theorem rkImpl (I : AImpl) : RkImpl I where
  count := fun lo hi w hI hT h0 h1 hlo hhi => countP_any I lo hi w hI hT h0 h1 hlo hhi
end Go.Proofs.YtnimbgcploohiaaGreat
set_option linter.unusedVariables false
set_option linter.unusedSimpArgs false
namespace Go.Proofs.YtnimbgcploohiaaGreat
open Go.RowKit
section
variable {I : AImpl} {w wr : World} {F : Nat → Prop} {p : Value} {A : Ar} {rd : Int} {rs : List Row} {bs : List (Nat × Obj)}
theorem Ins.nilrow (h : Ins I w F p A rd rs bs wr) (e : TypeId) (s : Nat) : Ins I w F p A rd (⟨e, s, .slice none 0 0, 0, []⟩ :: rs) bs wr := by
  have hno : ∀ k, Value.ownBlock (.slice none 0 0) ≠ some k := fun k hk => by simp [Value.ownBlock] at hk
  refine ⟨h.mr.less fun k hk => ?_, h.kp, fun r hr => ?_, h.boxes, List.pairwise_cons.2 ⟨fun r hr k hk => absurd hk (hno k), h.rr⟩, h.bb, fun r hr b hb => ?_⟩
  · rcases hk with hk | ⟨r, hr, hk⟩ | hk
    · exact .inl hk
    · rcases List.mem_cons.1 hr with rfl | hr
      · exact absurd hk (hno k)
      · exact .inr (.inl ⟨r, hr, hk⟩)
    · exact .inr (.inr hk)
  · rcases List.mem_cons.1 hr with rfl | hr
    · exact World.ownsRow_nil _ _ _ _
    · exact h.rows r hr
  · rcases List.mem_cons.1 hr with rfl | hr
    · exact hno b.1
    · exact h.rb r hr b hb
/-- the call ends with a row of entries -/
theorem Ins.ensRes {rd0 bd : Int} {va : Option Addr} {n vc : Nat} {P : List En} (h : Ins I w F p A rd (⟨34, 2, .slice va n vc, n, ensV P⟩ :: rs) bs wr) (hn : P.length = n) (h0 : rd0 ≤ rd) (h1 : rd ≤ rd0 + bd) :
    EnsRes I p A rd0 F bd P w (.returned (.slice va n vc)) wr := by
  subst hn
  obtain ⟨F', f1, f2, f3⟩ := h.mr.has
  refine ⟨F', rd, va, vc, rfl, ⟨h.mr.below.os, h.mr.below.tape, h.mr.below.output, h.mr.below.size, fun k hlt hF => h.kp k ⟨hlt, hF⟩, fun k hF' => ?_⟩, f1, h0, h1, h.rows ⟨34, 2, .slice va P.length vc, P.length, ensV P⟩ (List.Mem.head _), fun g hg => (f3 g (.inr (.inl ⟨_, List.Mem.head _, hg⟩))).2⟩
  by_cases hlt : k < w.heap.size
  · by_cases hF : F k
    · exact .inl hF
    · exact absurd hF' (f3 k (.inl ⟨hlt, hF⟩)).2
  · exact .inr (by omega)
theorem Ins.capacity (h : Ins I w F p A rd rs bs wr) : Calls Tryz.prog 95 #[p] wr fun e w' => e = .returned (.int .i64 (A.σ.cap : Int)) ∧ Ins I w F p A rd rs bs w' := by
  obtain ⟨F1, f1, _⟩ := h.mr.has
  exact (I.capacity p A rd F1 wr f1).mono fun e w1 ⟨h3, q, h4⟩ => ⟨h3, by subst h4; exact h.calm (below_drewN (Below.refl _ _) _)⟩
end
set_option maxHeartbeats 16000000 in
set_option maxRecDepth 100000 in
theorem rangeB_any (I : AImpl) {p : Value} {A : Ar} {rd : Int} {F : Nat → Prop} {i : Nat} {t : Tr} {l : List En} (lo hi lim : Int) (w : World) (hI : I.Is w p A rd F) (hT : TreeAt A i t l) (h0 : 0 ≤ rd) (h1 : rd ≤ 1099509100000) :
    Calls Tryz.prog 63 #[p, .int .u32 (i : Int), .int .i64 lo, .int .i64 hi, .int .i64 lim] w (EnsRes I p A rd F (2 * (xh l.length : Int) + ((firstE (betE l lo hi) lim).length : Int)) (firstE (betE l lo hi) lim) w) := by
  obtain ⟨pa, rfl⟩ := I.ptr hI
  have HS0 := Lib.hid (Ins.start hI)
  obtain ⟨held, hv⟩ := hT.inv
  have hcap := hv.ok.cap2
  have hhd := hT.held
  obtain ⟨U, hU⟩ : ∃ U, U + A.σ.free.length = A.σ.cap := ⟨A.σ.cap - A.σ.free.length, by omega⟩
  have hw64 : IntKind.i64.wrap ((A.σ.cap : Int) - (A.σ.free.length : Int)) = (U : Int) := by rw [IntKind.wrap_i64]; omega
  have hlen : l.length ≤ 2147483647 := by have := hT.size; omega
  have hht := hT.ht hlen
  have hgot : gotC A.nd lo hi t (lim - ((0 : Nat) : Int)).toNat = firstE (betE l lo hi) lim := by
    rw [gotC_spec A.nd lo hi t _ (by rw [hT.ents]; exact hT.up), hT.ents, show lim - ((0 : Nat) : Int) = lim by omega]
    rfl
  have hvis := vis_all A.nd lo hi t (lim - ((0 : Nat) : Int)).toNat (by rw [hT.ents]; exact hT.up)
  have hvs := visC_size A.nd lo hi t (lim - ((0 : Nat) : Int)).toNat
  rw [hgot] at hvis
  obtain ⟨P, hP⟩ : ∃ P, firstE (betE l lo hi) lim = P := ⟨_, rfl⟩
  rw [hP] at hgot hvis ⊢
  have HV : Hid (A.σ.Ok ∧ Sub A i t ∧ t.size ≤ U ∧ U ≤ 65536) := ⟨hv.ok, hT.sub, by omega, by omega⟩
  have HRD : Hid (0 ≤ rd ∧ rd ≤ 1099509100000) := ⟨h0, h1⟩
  have HG := Lib.hid hgot
  have HVI : Hid ((visC A.nd lo hi t (lim - ((0 : Nat) : Int)).toNat : Int) ≤ 2 * (xh l.length : Int) + (P.length : Int)) := by show _ ≤ _; omega
  clear hI hT hv hcap hhd hU hlen hht hgot hvis hvs hP h0 h1
  go_enter Tryz.func63, Tryz.ntmps63
  go_wp2_with fail
  refine HS0.out.capacity.mono ?_
  rintro e w1 ⟨rfl, hs1⟩
  have HS1 := Lib.hid hs1
  clear hs1 HS0
  go_wp2_with fail
  refine HS1.out.free.mono ?_
  rintro e w2 ⟨rfl, hs2⟩
  have hs3 := (hs2.nilrow 34 2).box #[.pointer (some pa), .int .i64 lo, .int .i64 hi, .int .i64 lim, .int .i64 (U : Int), .slice none 0 0] 132
  clear hs2 HS1
  go_upto_region 2 with fail
  generalize w2.alloc (Obj.cells #[.pointer (some pa), .int .i64 lo, .int .i64 hi, .int .i64 lim, .int .i64 (U : Int), .slice none 0 0] 132) = w3 at hs3 ⊢
  generalize w2.heap.size = g at hs3 ⊢
  have HS3 : Hid (ColS I w F (.pointer (some pa)) A [] [] g lo hi lim rd U 0 [] w3) := ⟨rfl, none, 0, hs3⟩
  clear hs3
  go_wp2_with fail
  refine (col_all I t w3 HS3.out HV.out.1 HV.out.2.1 HV.out.2.2.1 HV.out.2.2.2 (by have := HV.out; omega) HRD.out.1 (by have := HRD.out; have := HV.out; omega)).mono ?_
  rintro e w4 ⟨rfl, n', hn', va, vc, hs4⟩
  rw [HG.out, List.nil_append] at hs4 hn'
  have HQ : Hid (EnsRes I (.pointer (some pa)) A rd F (2 * (xh l.length : Int) + (P.length : Int)) P w (.returned (.slice va n' vc)) w4) := hs4.ensRes hn' (by omega) (by have := HVI.out; omega)
  unfold colA at hs4
  obtain ⟨⟨c0, c1, c2, c3, c4, c5⟩, f4, f5⟩ := cells6_of (hs4.boxes _ (List.Mem.head _)).2
  clear hs4 hn' HS3
  go_wp2_with fail
  go_ret
  exact HQ.out
theorem EnsRes.more {I : AImpl} {p : Value} {A : Ar} {rd : Int} {F : Nat → Prop} {bd bd' : Int} {P : List En} {w : World} {e : Ending} {w' : World} (h : EnsRes I p A rd F bd P w e w') (hb : bd ≤ bd') : EnsRes I p A rd F bd' P w e w' := by
  obtain ⟨F', rd', a, c, h1, h2, h3, h4, h5, h6⟩ := h
  exact ⟨F', rd', a, c, h1, h2, h3, h4, by omega, h6⟩
theorem bet_all64 {l : List En} (hw : WfL l) : betE l (-9223372036854775808) 9223372036854775807 = l := bet_all_of fun x hx => (hw x hx).1
set_option maxHeartbeats 4000000 in
set_option maxRecDepth 100000 in
theorem listB_any (I : AImpl) {p : Value} {A : Ar} {rd : Int} {F : Nat → Prop} {i : Nat} {t : Tr} {l : List En} (w : World) (hI : I.Is w p A rd F) (hT : TreeAt A i t l) (hw : WfL l) (h0 : 0 ≤ rd) (h1 : rd ≤ 1099509000000) :
    Calls Tryz.prog 27 #[p, .int .u32 (i : Int)] w (EnsRes I p A rd F (bulkBd l.length l.length) l w) := by
  obtain ⟨pa, rfl⟩ := I.ptr hI
  have hlen : l.length ≤ 65536 := by
    obtain ⟨held, hv⟩ := hT.inv
    have := hv.ok.cap2
    have := hT.held
    have := hT.size
    omega
  have e : firstE (betE l (-9223372036854775808) 9223372036854775807) 9223372036854775807 = l := by
    rw [bet_all64 hw]
    exact List.take_of_length_le (by omega)
  have HC := Lib.hid (rangeB_any I (-9223372036854775808) 9223372036854775807 9223372036854775807 w hI hT h0 (by omega))
  rw [e] at HC
  have HB : Hid (2 * (xh l.length : Int) + (l.length : Int) ≤ bulkBd l.length l.length) := by show _ ≤ _; unfold bulkBd; omega
  clear hI hT hw h0 h1 hlen e
  go_enter Tryz.func27, Tryz.ntmps27
  go_wp2_with fail
  refine HC.out.mono ?_
  rintro e w1 h
  obtain ⟨F', rd', a, c, rfl, h2, h3, h4, h5, h6⟩ := h
  have HQ : Hid (EnsRes I (.pointer (some pa)) A rd F (bulkBd l.length l.length) l w (.returned (.slice a l.length c)) w1) := ⟨F', rd', a, c, rfl, h2, h3, h4, by have := HB.out; omega, h6⟩
  clear h2 h3 h4 h5 h6 HC
  go_wp2_with fail
  go_ret
  exact HQ.out
end Go.Proofs.YtnimbgcploohiaaGreat
set_option linter.unusedVariables false
set_option linter.unusedSimpArgs false
namespace Go.Proofs.YtnimbgcploohiaaGreat
open Go.RowKit
theorem up_adj : ∀ {l : List En}, (∀ (j : Nat) (x y : En), l[j]? = some x → l[j + 1]? = some y → x.key < y.key) → Up l
  | [], _ => List.Pairwise.nil
  | [x], _ => List.pairwise_singleton _ _
  | x :: y :: t, h => by
    have ih : Up (y :: t) := up_adj fun j a b ha hb => h (j + 1) a b ha hb
    have hxy := h 0 x y rfl rfl
    refine List.pairwise_cons.2 ⟨fun z hz => ?_, ih⟩
    rcases List.mem_cons.1 hz with rfl | hz
    · exact hxy
    · have := (List.pairwise_cons.1 ih).1 z hz
      omega
theorem adj_up {l : List En} (h : Up l) {j : Nat} {x y : En} (hx : l[j]? = some x) (hy : l[j + 1]? = some y) : x.key < y.key := by
  obtain ⟨h1, rfl⟩ := List.getElem?_eq_some_iff.1 hx
  obtain ⟨h2, rfl⟩ := List.getElem?_eq_some_iff.1 hy
  exact List.pairwise_iff_getElem.1 h j (j + 1) h1 h2 (by omega)
def AscTo (l : List En) (k : Nat) : Prop := ∀ (j : Nat) (x y : En), j + 1 < k → l[j]? = some x → l[j + 1]? = some y → x.key < y.key
end Go.Proofs.YtnimbgcploohiaaGreat
set_option linter.unusedVariables false
set_option linter.unusedSimpArgs false
namespace Go.Proofs.YtnimbgcploohiaaGreat
open Go.RowKit
section
variable {I : AImpl} {w wr : World} {F F1 : Nat → Prop} {p : Value} {A : Ar} {rd : Int} {rs : List Row} {bs : List (Nat × Obj)} {a : Option Addr} {c : Nat} {P : List Nat}
/-- a call that alters the arena, and what is known of the arena's place -/
theorem Ins.mutO {f : FuncId} {args : Array Value} {Q : Ending → Ar → Int → Prop} (h : Ins I w F p A rd rs bs wr) (hc : ∀ F1, I.Is wr p A rd F1 → (∀ k, (OldI w F k ∨ SG rs bs k) → k < wr.heap.size ∧ ¬ F1 k) → Calls Tryz.prog f args wr (Mut I p F1 Q wr)) :
    Calls Tryz.prog f args wr fun e w' => ∃ A' rd', Q e A' rd' ∧ Ins I w F p A' rd' rs bs w' := by
  obtain ⟨F1, f1, f2, f3⟩ := h.mr.has
  refine (hc F1 f1 f3).mono ?_
  rintro e w1 ⟨F', A', rd', hal, hI, hq⟩
  have hst := h.mr.stepA f2 f3 hal hI
  exact ⟨A', rd', hq, hst.1, fun k hk => (hst.2 k (.inl hk)).trans (h.kp k hk), fun r hr => row_keep (h.rows r hr) fun k hk' => hst.2 k (.inr (.inl ⟨r, hr, hk'⟩)), fun b hb => ⟨(h.boxes b hb).1, (hst.2 b.1 (.inr (.inr ⟨b, hb, rfl⟩))).trans (h.boxes b hb).2⟩, h.rr, h.bb, h.rb⟩
/-- the slice (a, length of P, c) reads as P, and is none of the arena's -/
def PathAt (w : World) (F : Nat → Prop) (a : Option Addr) (c : Nat) (P : List Nat) : Prop :=
  P.length ≤ c ∧ (P = [] ∨ ∃ g o, a = some ⟨g, o, none⟩ ∧ g < w.heap.size ∧ ¬ F g ∧ ∀ (m x : Nat), P[m]? = some x → w.cell? ⟨g, o + m, none⟩ = some (.int .u32 (x : Int)))
theorem PathAt.ins (h : PathAt w F a c P) (hi : Ins I w F p A rd rs bs wr) (hF : ∀ k, (OldI w F k ∨ SG rs bs k) → k < wr.heap.size ∧ ¬ F1 k) : PathAt wr F1 a c P := by
  refine ⟨h.1, h.2.imp id ?_⟩
  rintro ⟨g, o, rfl, h1, h2, h3⟩
  have hg := hF g (.inl ⟨h1, h2⟩)
  exact ⟨g, o, rfl, hg.1, hg.2, fun m x hx => (World.cell?_of_block (hi.kp g ⟨h1, h2⟩)).trans (h3 m x hx)⟩
theorem PathAt.tail {x : Nat} (h : PathAt w F a c (x :: P)) : PathAt w F (if c = 1 then a else a.map (·.add 1)) (c - 1) P := by
  obtain ⟨h1, h2⟩ := h
  rw [List.length_cons] at h1
  refine ⟨by omega, ?_⟩
  rcases h2 with h2 | ⟨g, o, rfl, h3, h4, h5⟩
  · cases h2
  by_cases hc : c = 1
  · exact .inl (List.eq_nil_of_length_eq_zero (by omega))
  · rw [if_neg hc]
    exact .inr ⟨g, o + 1, rfl, h3, h4, fun m y hy => by have := h5 (m + 1) y (by simpa using hy); rw [show o + 1 + m = o + (m + 1) by omega]; exact this⟩
theorem PathAt.head {x : Nat} (h : PathAt w F a c (x :: P)) (hi : Ins I w F p A rd rs bs wr) : ∃ g o, a = some ⟨g, o, none⟩ ∧ wr.cell? ⟨g, o, none⟩ = some (.int .u32 (x : Int)) := by
  rcases h.2 with h2 | ⟨g, o, rfl, h3, h4, h5⟩
  · cases h2
  · exact ⟨g, o, rfl, (World.cell?_of_block (hi.kp g ⟨h3, h4⟩)).trans (h5 0 x rfl)⟩
/-- a call that reads and gives a row of indexes -/
theorem Ins.path {bd : Int} {f : FuncId} {args : Array Value} (h : Ins I w F p A rd rs bs wr) (hc : ∀ F1, I.Is wr p A rd F1 → Calls Tryz.prog f args wr (PathRes I p A rd F1 bd P wr)) :
    Calls Tryz.prog f args wr fun e w' => ∃ rd' a c, e = .returned (.slice a P.length c) ∧ Ins I w F p A rd' (⟨28, 1, .slice a P.length c, P.length, u32s P⟩ :: rs) bs w' ∧ rd ≤ rd' ∧ rd' ≤ rd + bd := by
  obtain ⟨F1, f1, f2, f3⟩ := h.mr.has
  refine (hc F1 f1).mono ?_
  rintro e w1 ⟨F', rd', a, c, rfl, hal, hI, h0, h1, hrow, hnF⟩
  have hst := h.mr.stepA f2 f3 hal hI
  refine ⟨rd', a, c, rfl, ⟨⟨⟨F', hI, fun _ _ => Nat.zero_le _, fun k hk => ?_⟩, hst.1.below, hst.1.hB⟩, fun k hk => (hst.2 k (.inl hk)).trans (h.kp k hk), fun r hr => ?_, fun b hb => ⟨(h.boxes b hb).1, (hst.2 b.1 (.inr (.inr ⟨b, hb, rfl⟩))).trans (h.boxes b hb).2⟩, List.pairwise_cons.2 ⟨fun r hr k hk e => ?_, h.rr⟩, h.bb, fun r hr b hb => ?_⟩, h0, h1⟩
  · rcases hk with hk | ⟨r, hr, hk⟩ | ⟨b, hb, rfl⟩
    · exact hal.apart f3 k (.inl hk)
    · rcases List.mem_cons.1 hr with rfl | hr
      · exact ⟨(row_lt hrow k hk).2, hnF k hk⟩
      · exact hal.apart f3 k (.inr (.inl ⟨r, hr, hk⟩))
    · exact hal.apart f3 b.1 (.inr (.inr ⟨b, hb, rfl⟩))
  · rcases List.mem_cons.1 hr with rfl | hr
    · exact row_mono hrow h.size
    · exact row_keep (h.rows r hr) fun k hk' => hst.2 k (.inr (.inl ⟨r, hr, hk'⟩))
  · have h1 := row_from hrow k hk
    have h2 := h.lt (.inl ⟨r, hr, e⟩)
    omega
  · rcases List.mem_cons.1 hr with rfl | hr
    · intro e
      have h1 := row_from hrow b.1 e
      have h2 := h.lt (.inr ⟨b, hb, rfl⟩)
      omega
    · exact h.rb r hr b hb
theorem PathAt.ofRow {B : Nat} (hr : wr.ownsRow B 28 1 (.slice a P.length c) P.length (u32s P)) (hg : ∀ g, (Value.slice a P.length c).ownBlock = some g → g < wr.heap.size ∧ ¬ F1 g) : PathAt wr F1 a c P := by
  have hle : P.length ≤ c := by
    rcases hr.2 with ⟨h1, h2⟩ | ⟨g, cap, cur, h1, _, _, h2, _⟩
    · omega
    · injection h1 with _ _ h3
      omega
  refine ⟨hle, ?_⟩
  cases P with
  | nil => exact .inl rfl
  | cons x P =>
    obtain ⟨g, rfl, h1, -⟩ := row_cell hr (j := 0) (by simp)
    refine .inr ⟨g, 0, rfl, h1, (hg g rfl).2, fun m y hy => ?_⟩
    obtain ⟨g', hgg, -, h3⟩ := row_cell hr (j := m) (List.getElem?_eq_some_iff.1 hy).1
    have hgg' : g = g' := by injection hgg with q; injection q
    subst hgg'
    rw [Nat.zero_add, h3]
    unfold u32s
    rw [List.getElem?_map, hy]
    rfl
end
end Go.Proofs.YtnimbgcploohiaaGreat
