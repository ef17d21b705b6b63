/- Of the proof of SJoinUndoesSplitP: LkOk2, LkOk3, RsCon, ShOk1, RsOk, JnOk, EnsIn, RefSub. -/
import Derived.Test.YtehaffcjoafkcaaSJoinUndoesSplitP4
import Derived.Test.YtehaffcjoafkcaaSJoinUndoesSplitP1
import Derived.Test.YtehaffcjoafkcaaSJoinUndoesSplitP2
import Derived.Test.YtehaffcjoafkcaaSJoinUndoesSplitP3
import Derived.Test.YtehaffcjoafkcaaSJoinUndoesSplitP6
import Derived.Test.YtehaffcjoafkcaaSJoinUndoesSplitP5
import Derived.Maps.AppendAt
import Derived.Deep.DeepCutAuto
import Derived.Laws.OwnMore
import Derived.Laws.AppendOwnNone
import Derived.Deep.RegionHeldLaw
set_option linter.unusedVariables false
set_option linter.unusedSimpArgs false
namespace Go.Proofs.Ytehaffcjoafkcaa
open Go.RowKit
section
variable {I : AImpl} {w wr wx : World} {F : Nat → Prop} {p : Value} {A : Ar} {rd : Int} {X : Nat → Prop}
theorem In.set2 (h : In I w F p A rd X wr) {g : Nat} (hg : X g) (hn : w.heap.size ≤ g) (x y : Value) : In I w F p A rd X ((wr.setCell ⟨g, 0, none⟩ x).setCell ⟨g, 1, none⟩ y) := by
  obtain ⟨F1, f1, f2, f3⟩ := h.mr.has
  have ho : ∀ k, k ≠ g → ((wr.setCell ⟨g, 0, none⟩ x).setCell ⟨g, 1, none⟩ y).heap[k]? = wr.heap[k]? := fun k hk => by rw [heap_setCell_other _ _ _ _ hk, heap_setCell_other _ _ _ _ hk]
  have hsz : ((wr.setCell ⟨g, 0, none⟩ x).setCell ⟨g, 1, none⟩ y).heap.size = wr.heap.size := by simp [World.setCell]
  refine ⟨⟨⟨F1, I.keep f1 fun k hk => ho k fun e => (f3 g (.inr hg)).2 (e ▸ hk), f2, fun k hk => ⟨by rw [hsz]; exact (f3 k hk).1, (f3 k hk).2⟩⟩, ?_, Nat.zero_le _⟩, fun k hk => ?_⟩
  · exact h.mr.below.trans ⟨rfl, rfl, rfl, Nat.le_of_eq hsz.symm, fun k hk => by omega⟩
  · have hne : k ≠ g := fun e => by have := hk.1; omega
    exact (ho k hne).trans (h.kp k hk)
theorem In.call {bd : Int} {v : Value} {f : FuncId} {args : Array Value} (h : In I w F p A rd X wr) (hc : ∀ F1, I.Is wr p A rd F1 → Calls Try.prog f args wr (ReadsTo I p A rd F1 bd v wr)) :
    Calls Try.prog f args wr fun e w' => e = .returned v ∧ ∃ rd', In I w F p A rd' X w' ∧ Keeps X wr w' ∧ rd ≤ rd' ∧ rd' ≤ rd + bd := by
  refine (mr_call h.mr hc).mono ?_
  rintro e w1 ⟨he, rd', h1, h2, h3, h4⟩
  exact ⟨he, rd', ⟨h1, fun k hk => (h2 k (.inl hk)).trans (h.kp k hk)⟩, fun k hk => h2 k (.inr hk), h3, h4⟩
end
/-- the result's box and the best entry's box -/
structure BB (I : AImpl) (w : World) (F : Nat → Prop) (p : Value) (A : Ar) (rd : Int) (r b : Nat) (o : Option En) (wr : World) : Prop where
  ins : In I w F p A rd (fun k => k = r ∨ k = b) wr
  hr : wr.heap[r]? = some (.cells #[.int .i64 0, .int .i64 0] 31 (0, 0))
  hb : wr.heap[b]? = some (.cells #[.int .i64 (o.elim 0 (·.key)), .int .i64 (o.elim 0 (·.val))] 31 (0, 0))
  ne : r ≠ b
  old : w.heap.size ≤ r ∧ w.heap.size ≤ b
section
variable {I : AImpl} {w wr wx : World} {F : Nat → Prop} {p : Value} {A : Ar} {rd rd' : Int} {r b : Nat} {o : Option En}
theorem BB.start (h : I.Is w p A rd F) : BB I w F p A rd w.heap.size (w.heap.size + 1) none ((w.alloc (.cells #[.int .i64 0, .int .i64 0] 31)).alloc (.cells #[.int .i64 0, .int .i64 0] 31)) := by
  have h1 := (In.start h).alloc (.cells #[.int .i64 0, .int .i64 0] 31)
  have h2 := h1.alloc (.cells #[.int .i64 0, .int .i64 0] 31)
  refine ⟨h2.less fun k hk => ?_, ?_, ?_, by omega, by omega⟩
  · rcases hk with rfl | rfl
    · exact .inl (.inr rfl)
    · exact .inr (by simp)
  · exact (h1.keeps (below_new7 _ _) _ (.inr rfl)).trans (heap_alloc_new w _)
  · have := heap_alloc_new (w.alloc (.cells #[.int .i64 0, .int .i64 0] 31)) (.cells #[.int .i64 0, .int .i64 0] 31)
    rw [World.size_alloc] at this
    exact this
theorem BB.calm (h : BB I w F p A rd r b o wr) (hb : Below wr.heap.size wr wx) : BB I w F p A rd r b o wx :=
  ⟨h.ins.calm hb, (h.ins.keeps hb r (.inl rfl)).trans h.hr, (h.ins.keeps hb b (.inr rfl)).trans h.hb, h.ne, h.old⟩
theorem BB.step (h : BB I w F p A rd r b o wr) (hi : In I w F p A rd' (fun k => k = r ∨ k = b) wx) (hk : Keeps (fun k => k = r ∨ k = b) wr wx) : BB I w F p A rd' r b o wx :=
  ⟨hi, (hk r (.inl rfl)).trans h.hr, (hk b (.inr rfl)).trans h.hb, h.ne, h.old⟩
theorem BB.put (h : BB I w F p A rd r b o wr) (e : En) : BB I w F p A rd r b (some e) ((wr.setCell ⟨b, 0, none⟩ (.int .i64 e.key)).setCell ⟨b, 1, none⟩ (.int .i64 e.val)) :=
  ⟨h.ins.set2 (.inr rfl) h.old.2 _ _, by rw [heap_setCell_other _ _ _ _ h.ne, heap_setCell_other _ _ _ _ h.ne]; exact h.hr, by rw [heap_setCell_same _ b 1 _ _ _ (heap_setCell_same wr b 0 _ _ _ h.hb)]; rfl, h.ne, h.old⟩
theorem BB.ends {rd0 bd : Int} (h : BB I w F p A rd r b o wr) (h0 : rd0 ≤ rd) (h1 : rd ≤ rd0 + bd) :
    ReadsTo I p A rd0 F bd (enR o) w (.returned (.tuple #[.agg #[.int .i64 (o.elim 0 (·.key)), .int .i64 (o.elim 0 (·.val))], .bool o.isSome])) ((wr.setCell ⟨r, 0, none⟩ (.int .i64 (o.elim 0 (·.key)))).setCell ⟨r, 1, none⟩ (.int .i64 (o.elim 0 (·.val)))) ∧
    ((wr.setCell ⟨r, 0, none⟩ (.int .i64 (o.elim 0 (·.key)))).setCell ⟨r, 1, none⟩ (.int .i64 (o.elim 0 (·.val)))).heap[r]? = some (.cells #[.int .i64 (o.elim 0 (·.key)), .int .i64 (o.elim 0 (·.val))] 31 (0, 0)) :=
  ⟨(h.ins.set2 (.inl rfl) h.old.1 _ _).ends h0 h1, by rw [heap_setCell_same _ r 1 _ _ _ (heap_setCell_same wr r 0 _ _ _ h.hr)]; rfl⟩
end
set_option maxRecDepth 100000 in
theorem entry_any (x : Nd) (w : World) : Calls Try.prog 75 #[.agg (ndRow x)] w (Calm w (.agg #[.int .i64 x.key, .int .i64 x.val])) := by
  have hin : (Try.prog.info? 31).map (·.size) = some 2 := by kernel_rfl
  have HINF := Lib.hid hin
  have HU : Hid _ := Lib.hid Try.underlying31
  have hb := below_new7 w (Obj.cells (ndRow x) 65)
  have hbx := heap_alloc_new w (Obj.cells (ndRow x) 65)
  clear hin
  go_enter Try.func75, Try.ntmps75
  unfold ndRow
  go_upto_region 1 with fail
  rw [show #[Value.int .i64 x.key, .int .i64 x.val, .int .u32 (x.left : Int), .int .u32 (x.right : Int), .int .i64 x.size, .int .i64 x.sum, .int .i64 x.mn, .int .i64 x.mx] = ndRow x from rfl]
  have hsz : w.heap.size < (w.alloc (Obj.cells (ndRow x) 65)).heap.size := by simp
  have hs1 : (w.alloc (Obj.cells (ndRow x) 65)).heap.size = w.heap.size + 1 := World.size_alloc _ _
  generalize w.alloc (Obj.cells (ndRow x) 65) = w2 at hb hbx hsz hs1 ⊢
  generalize hg : w.heap.size = g at hb hbx hsz hs1 ⊢
  have hb3 := below_new7 w2 (Obj.cells #[.int .i64 0, .int .i64 0] 31)
  have hr3 := heap_alloc_new w2 (Obj.cells #[.int .i64 0, .int .i64 0] 31)
  have hx3 := (hb3.block g hsz).trans hbx
  have hb4 := hb.trans (hb3.mono (Nat.le_of_lt hsz))
  (try rw [World.size_alloc])
  generalize w2.alloc (Obj.cells #[.int .i64 0, .int .i64 0] 31) = w3 at hr3 hx3 hb4 ⊢
  clear hb3
  (try rw [hg])
  rw [hs1] at hr3
  generalize hq : g + 1 = q at hr3 ⊢
  have x0 : w3.cell? ⟨g, 0, none⟩ = some (.int .i64 x.key) := by rw [cell_of_row _ _ _ _ _ _ hx3]; rfl
  have x1 : w3.cell? ⟨g, 1, none⟩ = some (.int .i64 x.val) := by rw [cell_of_row _ _ _ _ _ _ hx3]; rfl
  obtain ⟨r0, r1⟩ := two_ofE hr3
  have f0 := frozen_of_row _ _ 0 _ _ hr3
  have f1 := frozen_of_row _ _ 1 _ _ hr3
  have hgq : g ≠ q := by omega
  have HFIN : Hid (Below g w ((w3.setCell ⟨q, 0, none⟩ (.int .i64 x.key)).setCell ⟨q, 1, none⟩ (.int .i64 x.val)) ∧ ((w3.setCell ⟨q, 0, none⟩ (.int .i64 x.key)).setCell ⟨q, 1, none⟩ (.int .i64 x.val)).heap[q]? = some (.cells #[.int .i64 x.key, .int .i64 x.val] 31 (0, 0))) :=
    ⟨(hb4.setCell (by show g ≤ q; omega) _).setCell (by show g ≤ q; omega) _, by rw [heap_setCell_same _ q 1 _ _ _ (heap_setCell_same w3 q 0 _ _ _ hr3)]; rfl⟩
  have HGG := Lib.hid hg
  clear hb hbx hsz hs1 hr3 hx3 hb4 hg hq
  go_wp2_with fail
  refine bodyPost_ret (results_cell_row rfl _ _ q 31 #[.int .i64 x.key, .int .i64 x.val] (0, 0) _ rfl HFIN.out.2 HU.out rfl HINF.out) rfl ?_
  exact ⟨rfl, by rw [HGG.out]; exact HFIN.out.1⟩
def Waybefore (I : AImpl) (w : World) (F : Nat → Prop) (p : Value) (A : Ar) (rd0 : Int) (k : Int) (eq : Bool) (R : Option En) (top : Int) (r b U : Nat) (fd x c : Value) (wr : World) : Prop :=
  ∃ (i n : Nat) (u : Tr) (rd : Int) (o : Option En), fd = .bool o.isSome ∧ x = .int .u32 (i : Int) ∧ c = .int .i64 (n : Int) ∧ Sub A i u ∧ bef A.nd (k + if eq then 1 else 0) u o = R ∧ rd0 ≤ rd ∧ rd + (u.ht : Int) ≤ top ∧ n + u.size ≤ U ∧ BB I w F p A rd r b o wr
set_option maxHeartbeats 4000000 in
set_option maxRecDepth 100000 in
theorem beforeP_any (I : AImpl) {p : Value} {A : Ar} {rd : Int} {F : Nat → Prop} {i : Nat} {t : Tr} {l : List En} (k : Int) (eq : Bool) (w : World) (hI : I.Is w p A rd F) (hT : TreeAt A i t l) (h0 : 0 ≤ rd) (h1 : rd ≤ 1099511627776) :
    Calls Try.prog 58 #[p, .int .u32 (i : Int), .int .i64 k, .bool eq] w (ReadsTo I p A rd F (mostI l.length) (enR (bef A.nd (k + if eq then 1 else 0) t none)) w) := by
  obtain ⟨pa, rfl⟩ := I.ptr hI
  have hin : (Try.prog.info? 31).map (·.size) = some 2 := by kernel_rfl
  have HINF := Lib.hid hin
  have HU : Hid _ := Lib.hid Try.underlying31
  have hb := hT.bound
  obtain ⟨R, hR⟩ : ∃ R, bef A.nd (k + if eq then 1 else 0) t none = R := ⟨_, rfl⟩
  rw [hR]
  obtain ⟨M, hM⟩ : ∃ M, mostI l.length = M := ⟨_, rfl⟩
  rw [hM] at hb ⊢
  obtain ⟨held, hv⟩ := hT.inv
  have hcap := hv.ok.cap2
  have hhd := hT.held
  obtain ⟨U, hUU⟩ : ∃ U, U + A.σ.free.length = A.σ.cap := ⟨A.σ.cap - A.σ.free.length, by omega⟩
  have HUU : Hid (U ≤ 65536 ∧ t.size ≤ U) := ⟨by omega, by omega⟩
  have HOK := Lib.hid hv.ok
  have HRD : Hid (0 ≤ rd ∧ rd ≤ 1099511627776 ∧ (t.ht : Int) ≤ M ∧ t.ht ≤ 65536) := ⟨h0, h1, hb.1, hb.2⟩
  have hbb := BB.start hI
  have HLP : Hid (∀ wx F1, I.Is wx (.pointer (some pa)) A rd F1 → Calls Try.prog 74 #[.pointer (some pa)] wx (Calm wx (.int .i64 (U : Int)))) := fun wx F1 h => longest_any I wx h hUU
  have HSUB := Lib.hid hT.sub
  have HRR := Lib.hid hR
  clear hI hT h0 h1 hb hR hM hv hin hcap hhd hUU
  go_enter Try.func58, Try.ntmps58
  go_upto_region 2 with fail
  generalize (w.alloc (Obj.cells #[.int .i64 0, .int .i64 0] 31)).alloc (Obj.cells #[.int .i64 0, .int .i64 0] 31) = w1 at hbb ⊢
  obtain ⟨r, hr⟩ : ∃ r, w.heap.size = r := ⟨_, rfl⟩
  rw [hr] at hbb ⊢
  generalize hb1 : r + 1 = b at hbb ⊢
  have HBB := Lib.hid hbb
  clear hbb hr hb1
  go_wp2_with fail
  obtain ⟨F1, f1, -, -⟩ := HBB.out.ins.mr.has
  refine (HLP.out w1 F1 f1).mono ?_
  rintro e w1' ⟨rfl, hb1'⟩
  have HW0 : Hid (Waybefore I w F (.pointer (some pa)) A rd k eq R (rd + (t.ht : Int)) r b U (.bool false) (.int .u32 (i : Int)) (.int .i64 0) w1') := ⟨i, 0, t, rd, none, rfl, rfl, rfl, HSUB.out, HRR.out, Int.le_refl _, Int.le_refl _, by have := HUU.out; omega, HBB.out.calm hb1'⟩
  clear f1 hb1' HBB HLP
  go_wp2_with fail
  go_loopw [11, 12, 18] (fun fd x c wr => Waybefore I w F (.pointer (some pa)) A rd k eq R (rd + (t.ht : Int)) r b U fd x c wr) (fun _ _ c _ => U - (intOf c).toNat)
  case atStart => exact HW0.out
  case round =>
    clear HW0
    obtain ⟨i, n, u, rd1, o, rfl, rfl, rfl, hu, hg, hr0, hr1, hn, hB⟩ := hrel
    rcases Nat.lt_or_ge n U with hnu | hnu
    rotate_left
    · have hnu2 : decide ((n : Int) < (U : Int)) = false := decide_eq_false (by omega)
      have hu0 : u = .nil := by
        cases u with
        | nil => rfl
        | node i l r =>
          have : (Tr.node i l r).size = l.size + r.size + 1 := rfl
          omega
      subst hu0
      have ho : o = R := hg
      subst ho
      have he := hB.ends hr0 (bd := M) (by have := HRD.out; omega)
      have hUn : ¬ n < U := Nat.not_lt.2 hnu
      clear hu hg hr0 hr1 hn hnu
      have HE := Lib.hid he
      obtain ⟨c0, c1⟩ := two_ofE hB.hb
      obtain ⟨r0, r1⟩ := two_ofE hB.hr
      have f0 := frozen_of_row _ _ 0 _ _ hB.hr
      have f1 := frozen_of_row _ _ 1 _ _ hB.hr
      have hne := hB.ne
      have hne2 : b ≠ r := fun e => hne e.symm
      obtain ⟨X, hX⟩ : ∃ X, o.elim (0 : Int) (·.key) = X := ⟨_, rfl⟩
      obtain ⟨Y, hY⟩ : ∃ Y, o.elim (0 : Int) (·.val) = Y := ⟨_, rfl⟩
      rw [hX] at c0 HE
      rw [hY] at c1 HE
      clear hB he hX hY
      go_wp2_with fail
      refine bodyPost_ret (results_row_tmp rfl _ _ r 31 #[.int .i64 X, .int .i64 Y] (0, 0) _ rfl HE.out.2 HU.out rfl HINF.out) rfl ?_
      exact HE.out.1
    have hnu2 : decide ((n : Int) < (U : Int)) = true := decide_eq_true (by omega)
    have hnu3 : (n : Int) < (U : Int) := by omega
    have hU4 : (U : Int) ≤ 65536 := by have := HUU.out.1; omega
    have hn0 : (0 : Int) ≤ (n : Int) := by omega
    cases u with
    | nil =>
      obtain rfl : i = 0 := by
        cases hu with
        | nil => rfl
      have ho : o = R := hg
      subst ho
      have HR1 : Hid (rd ≤ rd1 ∧ rd1 ≤ rd + (t.ht : Int)) := ⟨hr0, by have : (Tr.nil.ht : Nat) = 0 := rfl; omega⟩
      have HBB := Lib.hid hB
      clear hu hg hr0 hr1 hB hn
      go_wp2_with fail
      refine (HBB.out.ins.off (by have := HR1.out; have := HRD.out; omega) (by have := HR1.out; have := HRD.out; omega)).mono ?_
      rintro e w2 ⟨rfl, hin2, hk2⟩
      have hB2 := (HBB.out.step hin2 hk2).calm (below_new7 w2 (Obj.cells (ndRow Nd.zero) 65))
      clear hin2 hk2 HBB
      unfold ndRow
      go_upto_region 7 with fail
      rw [show #[Value.int .i64 Nd.zero.key, .int .i64 Nd.zero.val, .int .u32 (Nd.zero.left : Int), .int .u32 (Nd.zero.right : Int), .int .i64 Nd.zero.size, .int .i64 Nd.zero.sum, .int .i64 Nd.zero.mn, .int .i64 Nd.zero.mx] = ndRow Nd.zero from rfl]
      generalize w2.alloc (Obj.cells (ndRow Nd.zero) 65) = w3 at hB2 ⊢
      have hB := hB2
      clear hB2
      have he := hB.ends (rd0 := rd) (bd := M) HR1.out.1 (by have := HR1.out; have := HRD.out; omega)
      generalize w2.heap.size = g
      have HE := Lib.hid he
      obtain ⟨c0, c1⟩ := two_ofE hB.hb
      obtain ⟨r0, r1⟩ := two_ofE hB.hr
      have f0 := frozen_of_row _ _ 0 _ _ hB.hr
      have f1 := frozen_of_row _ _ 1 _ _ hB.hr
      have hne := hB.ne
      have hne2 : b ≠ r := fun e => hne e.symm
      obtain ⟨X, hX⟩ : ∃ X, o.elim (0 : Int) (·.key) = X := ⟨_, rfl⟩
      obtain ⟨Y, hY⟩ : ∃ Y, o.elim (0 : Int) (·.val) = Y := ⟨_, rfl⟩
      rw [hX] at c0 HE
      rw [hY] at c1 HE
      clear hB he hX hY
      go_wp2_with fail
      refine bodyPost_ret (results_row_tmp rfl _ _ r 31 #[.int .i64 X, .int .i64 Y] (0, 0) _ rfl HE.out.2 HU.out rfl HINF.out) rfl ?_
      exact HE.out.1
    | node i2 l2 r2 =>
      obtain ⟨rfl, h0, hon, hsl, hsr⟩ : i2 = i ∧ i ≠ 0 ∧ A.σ.on i = true ∧ Sub A (A.nd i).left l2 ∧ Sub A (A.nd i).right r2 := by
        cases hu with
        | node _ _ _ h1 h2 h3 h4 => exact ⟨rfl, h1, h2, h3, h4⟩
      have hi4 : i2 < 4294967296 := by have := HOK.out.on i2 hon; have := HOK.out.cap2; omega
      have hht : (Tr.node i2 l2 r2).ht = 1 + max l2.ht r2.ht := rfl
      rw [show (Tr.node i2 l2 r2).size = l2.size + r2.size + 1 from rfl] at hn
      have HNL : Hid (n + 1 + l2.size ≤ U) := by show _ ≤ _; omega
      have HNR : Hid (n + 1 + r2.size ≤ U) := by show _ ≤ _; omega
      have HSL := Lib.hid hsl
      have HSR := Lib.hid hsr
      have HON := Lib.hid hon
      have HI4 := Lib.hid hi4
      have HR1 : Hid (rd ≤ rd1 ∧ rd1 + 1 + (l2.ht : Int) ≤ rd + (t.ht : Int) ∧ rd1 + 1 + (r2.ht : Int) ≤ rd + (t.ht : Int)) := ⟨hr0, by omega, by omega⟩
      have HBB := Lib.hid hB
      unfold bef at hg
      have HG := Lib.hid hg
      clear hu hg hr0 hr1 hB h0 hon hsl hsr hi4 hht hn
      go_wp2_with fail
      refine (HBB.out.ins.node (by have := HR1.out; have := HRD.out; omega) (by have := HR1.out; have := HRD.out; omega) HI4.out HON.out).mono ?_
      rintro e w2 ⟨rfl, hin2, hk2⟩
      have HB2 := Lib.hid (HBB.out.step hin2 hk2)
      clear hin2 hk2 HBB
      unfold ndRow
      go_upto_region 7 with fail
      rw [show #[Value.int .i64 (A.nd i2).key, .int .i64 (A.nd i2).val, .int .u32 ((A.nd i2).left : Int), .int .u32 ((A.nd i2).right : Int), .int .i64 (A.nd i2).size, .int .i64 (A.nd i2).sum, .int .i64 (A.nd i2).mn, .int .i64 (A.nd i2).mx] = ndRow (A.nd i2) from rfl]
      have hB3 := HB2.out.calm (below_new7 w2 (Obj.cells (ndRow (A.nd i2)) 65))
      have hbx := heap_alloc_new w2 (Obj.cells (ndRow (A.nd i2)) 65)
      have hgb : b < w2.heap.size := HB2.out.ins.mr.lt (.inr (.inr rfl))
      have hgl : w2.heap.size < (w2.alloc (Obj.cells (ndRow (A.nd i2)) 65)).heap.size := by simp
      generalize w2.alloc (Obj.cells (ndRow (A.nd i2)) 65) = w3 at hB3 hbx hgl ⊢
      generalize w2.heap.size = g at hbx hgb hgl ⊢
      have x0 : w3.cell? ⟨g, 0, none⟩ = some (.int .i64 (A.nd i2).key) := by rw [cell_of_row _ _ _ _ _ _ hbx]; rfl
      have x1 : w3.cell? ⟨g, 1, none⟩ = some (.int .i64 (A.nd i2).val) := by rw [cell_of_row _ _ _ _ _ _ hbx]; rfl
      have x2 : w3.cell? ⟨g, 2, none⟩ = some (.int .u32 ((A.nd i2).left : Int)) := by rw [cell_of_row _ _ _ _ _ _ hbx]; rfl
      have x3 : w3.cell? ⟨g, 3, none⟩ = some (.int .u32 ((A.nd i2).right : Int)) := by rw [cell_of_row _ _ _ _ _ _ hbx]; rfl
      have x4 : w3.cell? ⟨g, 4, none⟩ = some (.int .i64 (A.nd i2).size) := by rw [cell_of_row _ _ _ _ _ _ hbx]; rfl
      have x5 : w3.cell? ⟨g, 5, none⟩ = some (.int .i64 (A.nd i2).sum) := by rw [cell_of_row _ _ _ _ _ _ hbx]; rfl
      have x6 : w3.cell? ⟨g, 6, none⟩ = some (.int .i64 (A.nd i2).mn) := by rw [cell_of_row _ _ _ _ _ _ hbx]; rfl
      have x7 : w3.cell? ⟨g, 7, none⟩ = some (.int .i64 (A.nd i2).mx) := by rw [cell_of_row _ _ _ _ _ _ hbx]; rfl
      have HX := Lib.hid hbx
      have HGL : Hid (b < g ∧ g < w3.heap.size) := ⟨hgb, hgl⟩
      have HB3 := Lib.hid hB3
      have HEN := Lib.hid (entry_any (A.nd i2) w3)
      have hg := HG.out
      clear hB3 hbx hgb hgl HB2 HG
      cases eq with
      | true =>
        rw [show k + (if true = true then 1 else 0) = k + 1 from rfl] at hg
        rcases Int.lt_trichotomy (A.nd i2).key k with h | h | h
        · have q1 : decide ((A.nd i2).key < k) = true := decide_eq_true (by omega)
          have q2 : decide ((A.nd i2).key > k) = false := decide_eq_false (by omega)
          have q3 : decide (k < (A.nd i2).key) = false := decide_eq_false (by omega)
          have q4 : ((A.nd i2).key == k) = false := by simp; omega
          rw [if_pos (by omega)] at hg
          clear h
          have HG := Lib.hid hg
          clear hg
          go_wp2_with fail
          refine HEN.out.mono ?_
          rintro e w4 ⟨rfl, hb4⟩
          have hx4 := (hb4.block g HGL.out.2).trans HX.out
          have hB4 := HB3.out.calm hb4
          clear x0 x1 x2 x3 x4 x5 x6 x7 hb4
          have x2 : w4.cell? ⟨g, 2, none⟩ = some (.int .u32 ((A.nd i2).left : Int)) := by rw [cell_of_row _ _ _ _ _ _ hx4]; rfl
          have x3 : w4.cell? ⟨g, 3, none⟩ = some (.int .u32 ((A.nd i2).right : Int)) := by rw [cell_of_row _ _ _ _ _ _ hx4]; rfl
          obtain ⟨c0, c1⟩ := two_ofE hB4.hb
          have f0 := frozen_of_row _ _ 0 _ _ hB4.hb
          have f1 := frozen_of_row _ _ 1 _ _ hB4.hb
          have hgne : g ≠ b := by have := HGL.out; omega
          have hgne2 : b ≠ g := by have := HGL.out; omega
          obtain ⟨X, hX⟩ : ∃ X, o.elim (0 : Int) (·.key) = X := ⟨_, rfl⟩
          obtain ⟨Y, hY⟩ : ∃ Y, o.elim (0 : Int) (·.val) = Y := ⟨_, rfl⟩
          rw [hX] at c0
          rw [hY] at c1
          have HE : Hid (Waybefore I w F (.pointer (some pa)) A rd k true R (rd + (t.ht : Int)) r b U (.bool true) (.int .u32 ((A.nd i2).right : Int)) (.int .i64 ((n + 1 : Nat) : Int)) ((w4.setCell ⟨b, 0, none⟩ (.int .i64 (A.nd i2).key)).setCell ⟨b, 1, none⟩ (.int .i64 (A.nd i2).val))) := ⟨_, n + 1, r2, rd1 + 1, some (ndE (A.nd i2)), rfl, rfl, rfl, HSR.out, HG.out, by have := HR1.out; omega, HR1.out.2.2, HNR.out, hB4.put (ndE (A.nd i2))⟩
          clear hx4 hB4 hX hY HX HB3 HEN HG
          go_wp2_with fail
          exact ⟨by rw [show ((n : Int) + 1) = ((n + 1 : Nat) : Int) by omega]; exact HE.out, by simp [intOf]; omega⟩
        · have q1 : decide ((A.nd i2).key < k) = false := decide_eq_false (by omega)
          have q2 : decide ((A.nd i2).key > k) = false := decide_eq_false (by omega)
          have q3 : decide (k < (A.nd i2).key) = false := decide_eq_false (by omega)
          have q4 : ((A.nd i2).key == k) = true := by simp; omega
          rw [if_pos (by omega)] at hg
          clear h
          have HG := Lib.hid hg
          clear hg
          go_wp2_with fail
          refine HEN.out.mono ?_
          rintro e w4 ⟨rfl, hb4⟩
          have hx4 := (hb4.block g HGL.out.2).trans HX.out
          have hB4 := HB3.out.calm hb4
          clear x0 x1 x2 x3 x4 x5 x6 x7 hb4
          have x2 : w4.cell? ⟨g, 2, none⟩ = some (.int .u32 ((A.nd i2).left : Int)) := by rw [cell_of_row _ _ _ _ _ _ hx4]; rfl
          have x3 : w4.cell? ⟨g, 3, none⟩ = some (.int .u32 ((A.nd i2).right : Int)) := by rw [cell_of_row _ _ _ _ _ _ hx4]; rfl
          obtain ⟨c0, c1⟩ := two_ofE hB4.hb
          have f0 := frozen_of_row _ _ 0 _ _ hB4.hb
          have f1 := frozen_of_row _ _ 1 _ _ hB4.hb
          have hgne : g ≠ b := by have := HGL.out; omega
          have hgne2 : b ≠ g := by have := HGL.out; omega
          obtain ⟨X, hX⟩ : ∃ X, o.elim (0 : Int) (·.key) = X := ⟨_, rfl⟩
          obtain ⟨Y, hY⟩ : ∃ Y, o.elim (0 : Int) (·.val) = Y := ⟨_, rfl⟩
          rw [hX] at c0
          rw [hY] at c1
          have HE : Hid (Waybefore I w F (.pointer (some pa)) A rd k true R (rd + (t.ht : Int)) r b U (.bool true) (.int .u32 ((A.nd i2).right : Int)) (.int .i64 ((n + 1 : Nat) : Int)) ((w4.setCell ⟨b, 0, none⟩ (.int .i64 (A.nd i2).key)).setCell ⟨b, 1, none⟩ (.int .i64 (A.nd i2).val))) := ⟨_, n + 1, r2, rd1 + 1, some (ndE (A.nd i2)), rfl, rfl, rfl, HSR.out, HG.out, by have := HR1.out; omega, HR1.out.2.2, HNR.out, hB4.put (ndE (A.nd i2))⟩
          clear hx4 hB4 hX hY HX HB3 HEN HG
          go_wp2_with fail
          exact ⟨by rw [show ((n : Int) + 1) = ((n + 1 : Nat) : Int) by omega]; exact HE.out, by simp [intOf]; omega⟩
        · have q1 : decide ((A.nd i2).key < k) = false := decide_eq_false (by omega)
          have q2 : decide ((A.nd i2).key > k) = true := decide_eq_true (by omega)
          have q3 : decide (k < (A.nd i2).key) = true := decide_eq_true (by omega)
          have q4 : ((A.nd i2).key == k) = false := by simp; omega
          rw [if_neg (by omega)] at hg
          clear h
          have HE : Hid (Waybefore I w F (.pointer (some pa)) A rd k true R (rd + (t.ht : Int)) r b U (.bool o.isSome) (.int .u32 ((A.nd i2).left : Int)) (.int .i64 ((n + 1 : Nat) : Int)) w3) := ⟨_, n + 1, l2, rd1 + 1, o, rfl, rfl, rfl, HSL.out, hg, by have := HR1.out; omega, HR1.out.2.1, HNL.out, HB3.out⟩
          generalize o.isSome = ob at HE ⊢
          clear hg HX HB3 HEN
          go_wp2_with fail
          exact ⟨by rw [show ((n : Int) + 1) = ((n + 1 : Nat) : Int) by omega]; exact HE.out, by simp [intOf]; omega⟩
      | false =>
        rw [show k + (if false = true then 1 else 0) = k + 0 from rfl] at hg
        rcases Int.lt_trichotomy (A.nd i2).key k with h | h | h
        · have q1 : decide ((A.nd i2).key < k) = true := decide_eq_true (by omega)
          have q2 : decide ((A.nd i2).key > k) = false := decide_eq_false (by omega)
          have q3 : decide (k < (A.nd i2).key) = false := decide_eq_false (by omega)
          have q4 : ((A.nd i2).key == k) = false := by simp; omega
          rw [if_pos (by omega)] at hg
          clear h
          have HG := Lib.hid hg
          clear hg
          go_wp2_with fail
          refine HEN.out.mono ?_
          rintro e w4 ⟨rfl, hb4⟩
          have hx4 := (hb4.block g HGL.out.2).trans HX.out
          have hB4 := HB3.out.calm hb4
          clear x0 x1 x2 x3 x4 x5 x6 x7 hb4
          have x2 : w4.cell? ⟨g, 2, none⟩ = some (.int .u32 ((A.nd i2).left : Int)) := by rw [cell_of_row _ _ _ _ _ _ hx4]; rfl
          have x3 : w4.cell? ⟨g, 3, none⟩ = some (.int .u32 ((A.nd i2).right : Int)) := by rw [cell_of_row _ _ _ _ _ _ hx4]; rfl
          obtain ⟨c0, c1⟩ := two_ofE hB4.hb
          have f0 := frozen_of_row _ _ 0 _ _ hB4.hb
          have f1 := frozen_of_row _ _ 1 _ _ hB4.hb
          have hgne : g ≠ b := by have := HGL.out; omega
          have hgne2 : b ≠ g := by have := HGL.out; omega
          obtain ⟨X, hX⟩ : ∃ X, o.elim (0 : Int) (·.key) = X := ⟨_, rfl⟩
          obtain ⟨Y, hY⟩ : ∃ Y, o.elim (0 : Int) (·.val) = Y := ⟨_, rfl⟩
          rw [hX] at c0
          rw [hY] at c1
          have HE : Hid (Waybefore I w F (.pointer (some pa)) A rd k false R (rd + (t.ht : Int)) r b U (.bool true) (.int .u32 ((A.nd i2).right : Int)) (.int .i64 ((n + 1 : Nat) : Int)) ((w4.setCell ⟨b, 0, none⟩ (.int .i64 (A.nd i2).key)).setCell ⟨b, 1, none⟩ (.int .i64 (A.nd i2).val))) := ⟨_, n + 1, r2, rd1 + 1, some (ndE (A.nd i2)), rfl, rfl, rfl, HSR.out, HG.out, by have := HR1.out; omega, HR1.out.2.2, HNR.out, hB4.put (ndE (A.nd i2))⟩
          clear hx4 hB4 hX hY HX HB3 HEN HG
          go_wp2_with fail
          exact ⟨by rw [show ((n : Int) + 1) = ((n + 1 : Nat) : Int) by omega]; exact HE.out, by simp [intOf]; omega⟩
        · have q1 : decide ((A.nd i2).key < k) = false := decide_eq_false (by omega)
          have q2 : decide ((A.nd i2).key > k) = false := decide_eq_false (by omega)
          have q3 : decide (k < (A.nd i2).key) = false := decide_eq_false (by omega)
          have q4 : ((A.nd i2).key == k) = true := by simp; omega
          rw [if_neg (by omega)] at hg
          clear h
          have HE : Hid (Waybefore I w F (.pointer (some pa)) A rd k false R (rd + (t.ht : Int)) r b U (.bool o.isSome) (.int .u32 ((A.nd i2).left : Int)) (.int .i64 ((n + 1 : Nat) : Int)) w3) := ⟨_, n + 1, l2, rd1 + 1, o, rfl, rfl, rfl, HSL.out, hg, by have := HR1.out; omega, HR1.out.2.1, HNL.out, HB3.out⟩
          generalize o.isSome = ob at HE ⊢
          clear hg HX HB3 HEN
          go_wp2_with fail
          exact ⟨by rw [show ((n : Int) + 1) = ((n + 1 : Nat) : Int) by omega]; exact HE.out, by simp [intOf]; omega⟩
        · have q1 : decide ((A.nd i2).key < k) = false := decide_eq_false (by omega)
          have q2 : decide ((A.nd i2).key > k) = true := decide_eq_true (by omega)
          have q3 : decide (k < (A.nd i2).key) = true := decide_eq_true (by omega)
          have q4 : ((A.nd i2).key == k) = false := by simp; omega
          rw [if_neg (by omega)] at hg
          clear h
          have HE : Hid (Waybefore I w F (.pointer (some pa)) A rd k false R (rd + (t.ht : Int)) r b U (.bool o.isSome) (.int .u32 ((A.nd i2).left : Int)) (.int .i64 ((n + 1 : Nat) : Int)) w3) := ⟨_, n + 1, l2, rd1 + 1, o, rfl, rfl, rfl, HSL.out, hg, by have := HR1.out; omega, HR1.out.2.1, HNL.out, HB3.out⟩
          generalize o.isSome = ob at HE ⊢
          clear hg HX HB3 HEN
          go_wp2_with fail
          exact ⟨by rw [show ((n : Int) + 1) = ((n + 1 : Nat) : Int) by omega]; exact HE.out, by simp [intOf]; omega⟩
def Wayafter (I : AImpl) (w : World) (F : Nat → Prop) (p : Value) (A : Ar) (rd0 : Int) (k : Int) (eq : Bool) (R : Option En) (top : Int) (r b U : Nat) (fd x c : Value) (wr : World) : Prop :=
  ∃ (i n : Nat) (u : Tr) (rd : Int) (o : Option En), fd = .bool o.isSome ∧ x = .int .u32 (i : Int) ∧ c = .int .i64 (n : Int) ∧ Sub A i u ∧ aft A.nd (k + if eq then 0 else 1) u o = R ∧ rd0 ≤ rd ∧ rd + (u.ht : Int) ≤ top ∧ n + u.size ≤ U ∧ BB I w F p A rd r b o wr
set_option maxHeartbeats 4000000 in
set_option maxRecDepth 100000 in
theorem afterP_any (I : AImpl) {p : Value} {A : Ar} {rd : Int} {F : Nat → Prop} {i : Nat} {t : Tr} {l : List En} (k : Int) (eq : Bool) (w : World) (hI : I.Is w p A rd F) (hT : TreeAt A i t l) (h0 : 0 ≤ rd) (h1 : rd ≤ 1099511627776) :
    Calls Try.prog 57 #[p, .int .u32 (i : Int), .int .i64 k, .bool eq] w (ReadsTo I p A rd F (mostI l.length) (enR (aft A.nd (k + if eq then 0 else 1) t none)) w) := by
  obtain ⟨pa, rfl⟩ := I.ptr hI
  have hin : (Try.prog.info? 31).map (·.size) = some 2 := by kernel_rfl
  have HINF := Lib.hid hin
  have HU : Hid _ := Lib.hid Try.underlying31
  have hb := hT.bound
  obtain ⟨R, hR⟩ : ∃ R, aft A.nd (k + if eq then 0 else 1) t none = R := ⟨_, rfl⟩
  rw [hR]
  obtain ⟨M, hM⟩ : ∃ M, mostI l.length = M := ⟨_, rfl⟩
  rw [hM] at hb ⊢
  obtain ⟨held, hv⟩ := hT.inv
  have hcap := hv.ok.cap2
  have hhd := hT.held
  obtain ⟨U, hUU⟩ : ∃ U, U + A.σ.free.length = A.σ.cap := ⟨A.σ.cap - A.σ.free.length, by omega⟩
  have HUU : Hid (U ≤ 65536 ∧ t.size ≤ U) := ⟨by omega, by omega⟩
  have HOK := Lib.hid hv.ok
  have HRD : Hid (0 ≤ rd ∧ rd ≤ 1099511627776 ∧ (t.ht : Int) ≤ M ∧ t.ht ≤ 65536) := ⟨h0, h1, hb.1, hb.2⟩
  have hbb := BB.start hI
  have HLP : Hid (∀ wx F1, I.Is wx (.pointer (some pa)) A rd F1 → Calls Try.prog 74 #[.pointer (some pa)] wx (Calm wx (.int .i64 (U : Int)))) := fun wx F1 h => longest_any I wx h hUU
  have HSUB := Lib.hid hT.sub
  have HRR := Lib.hid hR
  clear hI hT h0 h1 hb hR hM hv hin hcap hhd hUU
  go_enter Try.func57, Try.ntmps57
  go_upto_region 2 with fail
  generalize (w.alloc (Obj.cells #[.int .i64 0, .int .i64 0] 31)).alloc (Obj.cells #[.int .i64 0, .int .i64 0] 31) = w1 at hbb ⊢
  obtain ⟨r, hr⟩ : ∃ r, w.heap.size = r := ⟨_, rfl⟩
  rw [hr] at hbb ⊢
  generalize hb1 : r + 1 = b at hbb ⊢
  have HBB := Lib.hid hbb
  clear hbb hr hb1
  go_wp2_with fail
  obtain ⟨F1, f1, -, -⟩ := HBB.out.ins.mr.has
  refine (HLP.out w1 F1 f1).mono ?_
  rintro e w1' ⟨rfl, hb1'⟩
  have HW0 : Hid (Wayafter I w F (.pointer (some pa)) A rd k eq R (rd + (t.ht : Int)) r b U (.bool false) (.int .u32 (i : Int)) (.int .i64 0) w1') := ⟨i, 0, t, rd, none, rfl, rfl, rfl, HSUB.out, HRR.out, Int.le_refl _, Int.le_refl _, by have := HUU.out; omega, HBB.out.calm hb1'⟩
  clear f1 hb1' HBB HLP
  go_wp2_with fail
  go_loopw [11, 12, 18] (fun fd x c wr => Wayafter I w F (.pointer (some pa)) A rd k eq R (rd + (t.ht : Int)) r b U fd x c wr) (fun _ _ c _ => U - (intOf c).toNat)
  case atStart => exact HW0.out
  case round =>
    clear HW0
    obtain ⟨i, n, u, rd1, o, rfl, rfl, rfl, hu, hg, hr0, hr1, hn, hB⟩ := hrel
    rcases Nat.lt_or_ge n U with hnu | hnu
    rotate_left
    · have hnu2 : decide ((n : Int) < (U : Int)) = false := decide_eq_false (by omega)
      have hu0 : u = .nil := by
        cases u with
        | nil => rfl
        | node i l r =>
          have : (Tr.node i l r).size = l.size + r.size + 1 := rfl
          omega
      subst hu0
      have ho : o = R := hg
      subst ho
      have he := hB.ends hr0 (bd := M) (by have := HRD.out; omega)
      have hUn : ¬ n < U := Nat.not_lt.2 hnu
      clear hu hg hr0 hr1 hn hnu
      have HE := Lib.hid he
      obtain ⟨c0, c1⟩ := two_ofE hB.hb
      obtain ⟨r0, r1⟩ := two_ofE hB.hr
      have f0 := frozen_of_row _ _ 0 _ _ hB.hr
      have f1 := frozen_of_row _ _ 1 _ _ hB.hr
      have hne := hB.ne
      have hne2 : b ≠ r := fun e => hne e.symm
      obtain ⟨X, hX⟩ : ∃ X, o.elim (0 : Int) (·.key) = X := ⟨_, rfl⟩
      obtain ⟨Y, hY⟩ : ∃ Y, o.elim (0 : Int) (·.val) = Y := ⟨_, rfl⟩
      rw [hX] at c0 HE
      rw [hY] at c1 HE
      clear hB he hX hY
      go_wp2_with fail
      refine bodyPost_ret (results_row_tmp rfl _ _ r 31 #[.int .i64 X, .int .i64 Y] (0, 0) _ rfl HE.out.2 HU.out rfl HINF.out) rfl ?_
      exact HE.out.1
    have hnu2 : decide ((n : Int) < (U : Int)) = true := decide_eq_true (by omega)
    have hnu3 : (n : Int) < (U : Int) := by omega
    have hU4 : (U : Int) ≤ 65536 := by have := HUU.out.1; omega
    have hn0 : (0 : Int) ≤ (n : Int) := by omega
    cases u with
    | nil =>
      obtain rfl : i = 0 := by
        cases hu with
        | nil => rfl
      have ho : o = R := hg
      subst ho
      have HR1 : Hid (rd ≤ rd1 ∧ rd1 ≤ rd + (t.ht : Int)) := ⟨hr0, by have : (Tr.nil.ht : Nat) = 0 := rfl; omega⟩
      have HBB := Lib.hid hB
      clear hu hg hr0 hr1 hB hn
      go_wp2_with fail
      refine (HBB.out.ins.off (by have := HR1.out; have := HRD.out; omega) (by have := HR1.out; have := HRD.out; omega)).mono ?_
      rintro e w2 ⟨rfl, hin2, hk2⟩
      have hB2 := (HBB.out.step hin2 hk2).calm (below_new7 w2 (Obj.cells (ndRow Nd.zero) 65))
      clear hin2 hk2 HBB
      unfold ndRow
      go_upto_region 7 with fail
      rw [show #[Value.int .i64 Nd.zero.key, .int .i64 Nd.zero.val, .int .u32 (Nd.zero.left : Int), .int .u32 (Nd.zero.right : Int), .int .i64 Nd.zero.size, .int .i64 Nd.zero.sum, .int .i64 Nd.zero.mn, .int .i64 Nd.zero.mx] = ndRow Nd.zero from rfl]
      generalize w2.alloc (Obj.cells (ndRow Nd.zero) 65) = w3 at hB2 ⊢
      have hB := hB2
      clear hB2
      have he := hB.ends (rd0 := rd) (bd := M) HR1.out.1 (by have := HR1.out; have := HRD.out; omega)
      generalize w2.heap.size = g
      have HE := Lib.hid he
      obtain ⟨c0, c1⟩ := two_ofE hB.hb
      obtain ⟨r0, r1⟩ := two_ofE hB.hr
      have f0 := frozen_of_row _ _ 0 _ _ hB.hr
      have f1 := frozen_of_row _ _ 1 _ _ hB.hr
      have hne := hB.ne
      have hne2 : b ≠ r := fun e => hne e.symm
      obtain ⟨X, hX⟩ : ∃ X, o.elim (0 : Int) (·.key) = X := ⟨_, rfl⟩
      obtain ⟨Y, hY⟩ : ∃ Y, o.elim (0 : Int) (·.val) = Y := ⟨_, rfl⟩
      rw [hX] at c0 HE
      rw [hY] at c1 HE
      clear hB he hX hY
      go_wp2_with fail
      refine bodyPost_ret (results_row_tmp rfl _ _ r 31 #[.int .i64 X, .int .i64 Y] (0, 0) _ rfl HE.out.2 HU.out rfl HINF.out) rfl ?_
      exact HE.out.1
    | node i2 l2 r2 =>
      obtain ⟨rfl, h0, hon, hsl, hsr⟩ : i2 = i ∧ i ≠ 0 ∧ A.σ.on i = true ∧ Sub A (A.nd i).left l2 ∧ Sub A (A.nd i).right r2 := by
        cases hu with
        | node _ _ _ h1 h2 h3 h4 => exact ⟨rfl, h1, h2, h3, h4⟩
      have hi4 : i2 < 4294967296 := by have := HOK.out.on i2 hon; have := HOK.out.cap2; omega
      have hht : (Tr.node i2 l2 r2).ht = 1 + max l2.ht r2.ht := rfl
      rw [show (Tr.node i2 l2 r2).size = l2.size + r2.size + 1 from rfl] at hn
      have HNL : Hid (n + 1 + l2.size ≤ U) := by show _ ≤ _; omega
      have HNR : Hid (n + 1 + r2.size ≤ U) := by show _ ≤ _; omega
      have HSL := Lib.hid hsl
      have HSR := Lib.hid hsr
      have HON := Lib.hid hon
      have HI4 := Lib.hid hi4
      have HR1 : Hid (rd ≤ rd1 ∧ rd1 + 1 + (l2.ht : Int) ≤ rd + (t.ht : Int) ∧ rd1 + 1 + (r2.ht : Int) ≤ rd + (t.ht : Int)) := ⟨hr0, by omega, by omega⟩
      have HBB := Lib.hid hB
      unfold aft at hg
      have HG := Lib.hid hg
      clear hu hg hr0 hr1 hB h0 hon hsl hsr hi4 hht hn
      go_wp2_with fail
      refine (HBB.out.ins.node (by have := HR1.out; have := HRD.out; omega) (by have := HR1.out; have := HRD.out; omega) HI4.out HON.out).mono ?_
      rintro e w2 ⟨rfl, hin2, hk2⟩
      have HB2 := Lib.hid (HBB.out.step hin2 hk2)
      clear hin2 hk2 HBB
      unfold ndRow
      go_upto_region 7 with fail
      rw [show #[Value.int .i64 (A.nd i2).key, .int .i64 (A.nd i2).val, .int .u32 ((A.nd i2).left : Int), .int .u32 ((A.nd i2).right : Int), .int .i64 (A.nd i2).size, .int .i64 (A.nd i2).sum, .int .i64 (A.nd i2).mn, .int .i64 (A.nd i2).mx] = ndRow (A.nd i2) from rfl]
      have hB3 := HB2.out.calm (below_new7 w2 (Obj.cells (ndRow (A.nd i2)) 65))
      have hbx := heap_alloc_new w2 (Obj.cells (ndRow (A.nd i2)) 65)
      have hgb : b < w2.heap.size := HB2.out.ins.mr.lt (.inr (.inr rfl))
      have hgl : w2.heap.size < (w2.alloc (Obj.cells (ndRow (A.nd i2)) 65)).heap.size := by simp
      generalize w2.alloc (Obj.cells (ndRow (A.nd i2)) 65) = w3 at hB3 hbx hgl ⊢
      generalize w2.heap.size = g at hbx hgb hgl ⊢
      have x0 : w3.cell? ⟨g, 0, none⟩ = some (.int .i64 (A.nd i2).key) := by rw [cell_of_row _ _ _ _ _ _ hbx]; rfl
      have x1 : w3.cell? ⟨g, 1, none⟩ = some (.int .i64 (A.nd i2).val) := by rw [cell_of_row _ _ _ _ _ _ hbx]; rfl
      have x2 : w3.cell? ⟨g, 2, none⟩ = some (.int .u32 ((A.nd i2).left : Int)) := by rw [cell_of_row _ _ _ _ _ _ hbx]; rfl
      have x3 : w3.cell? ⟨g, 3, none⟩ = some (.int .u32 ((A.nd i2).right : Int)) := by rw [cell_of_row _ _ _ _ _ _ hbx]; rfl
      have x4 : w3.cell? ⟨g, 4, none⟩ = some (.int .i64 (A.nd i2).size) := by rw [cell_of_row _ _ _ _ _ _ hbx]; rfl
      have x5 : w3.cell? ⟨g, 5, none⟩ = some (.int .i64 (A.nd i2).sum) := by rw [cell_of_row _ _ _ _ _ _ hbx]; rfl
      have x6 : w3.cell? ⟨g, 6, none⟩ = some (.int .i64 (A.nd i2).mn) := by rw [cell_of_row _ _ _ _ _ _ hbx]; rfl
      have x7 : w3.cell? ⟨g, 7, none⟩ = some (.int .i64 (A.nd i2).mx) := by rw [cell_of_row _ _ _ _ _ _ hbx]; rfl
      have HX := Lib.hid hbx
      have HGL : Hid (b < g ∧ g < w3.heap.size) := ⟨hgb, hgl⟩
      have HB3 := Lib.hid hB3
      have HEN := Lib.hid (entry_any (A.nd i2) w3)
      have hg := HG.out
      clear hB3 hbx hgb hgl HB2 HG
      cases eq with
      | true =>
        rw [show k + (if true = true then 0 else 1) = k + 0 from rfl] at hg
        rcases Int.lt_trichotomy (A.nd i2).key k with h | h | h
        · have q1 : decide ((A.nd i2).key < k) = true := decide_eq_true (by omega)
          have q2 : decide ((A.nd i2).key > k) = false := decide_eq_false (by omega)
          have q3 : decide (k < (A.nd i2).key) = false := decide_eq_false (by omega)
          have q4 : ((A.nd i2).key == k) = false := by simp; omega
          rw [if_pos (by omega)] at hg
          clear h
          have HE : Hid (Wayafter I w F (.pointer (some pa)) A rd k true R (rd + (t.ht : Int)) r b U (.bool o.isSome) (.int .u32 ((A.nd i2).right : Int)) (.int .i64 ((n + 1 : Nat) : Int)) w3) := ⟨_, n + 1, r2, rd1 + 1, o, rfl, rfl, rfl, HSR.out, hg, by have := HR1.out; omega, HR1.out.2.2, HNR.out, HB3.out⟩
          generalize o.isSome = ob at HE ⊢
          clear hg HX HB3 HEN
          go_wp2_with fail
          exact ⟨by rw [show ((n : Int) + 1) = ((n + 1 : Nat) : Int) by omega]; exact HE.out, by simp [intOf]; omega⟩
        · have q1 : decide ((A.nd i2).key < k) = false := decide_eq_false (by omega)
          have q2 : decide ((A.nd i2).key > k) = false := decide_eq_false (by omega)
          have q3 : decide (k < (A.nd i2).key) = false := decide_eq_false (by omega)
          have q4 : ((A.nd i2).key == k) = true := by simp; omega
          rw [if_neg (by omega)] at hg
          clear h
          have HG := Lib.hid hg
          clear hg
          go_wp2_with fail
          refine HEN.out.mono ?_
          rintro e w4 ⟨rfl, hb4⟩
          have hx4 := (hb4.block g HGL.out.2).trans HX.out
          have hB4 := HB3.out.calm hb4
          clear x0 x1 x2 x3 x4 x5 x6 x7 hb4
          have x2 : w4.cell? ⟨g, 2, none⟩ = some (.int .u32 ((A.nd i2).left : Int)) := by rw [cell_of_row _ _ _ _ _ _ hx4]; rfl
          have x3 : w4.cell? ⟨g, 3, none⟩ = some (.int .u32 ((A.nd i2).right : Int)) := by rw [cell_of_row _ _ _ _ _ _ hx4]; rfl
          obtain ⟨c0, c1⟩ := two_ofE hB4.hb
          have f0 := frozen_of_row _ _ 0 _ _ hB4.hb
          have f1 := frozen_of_row _ _ 1 _ _ hB4.hb
          have hgne : g ≠ b := by have := HGL.out; omega
          have hgne2 : b ≠ g := by have := HGL.out; omega
          obtain ⟨X, hX⟩ : ∃ X, o.elim (0 : Int) (·.key) = X := ⟨_, rfl⟩
          obtain ⟨Y, hY⟩ : ∃ Y, o.elim (0 : Int) (·.val) = Y := ⟨_, rfl⟩
          rw [hX] at c0
          rw [hY] at c1
          have HE : Hid (Wayafter I w F (.pointer (some pa)) A rd k true R (rd + (t.ht : Int)) r b U (.bool true) (.int .u32 ((A.nd i2).left : Int)) (.int .i64 ((n + 1 : Nat) : Int)) ((w4.setCell ⟨b, 0, none⟩ (.int .i64 (A.nd i2).key)).setCell ⟨b, 1, none⟩ (.int .i64 (A.nd i2).val))) := ⟨_, n + 1, l2, rd1 + 1, some (ndE (A.nd i2)), rfl, rfl, rfl, HSL.out, HG.out, by have := HR1.out; omega, HR1.out.2.1, HNL.out, hB4.put (ndE (A.nd i2))⟩
          clear hx4 hB4 hX hY HX HB3 HEN HG
          go_wp2_with fail
          exact ⟨by rw [show ((n : Int) + 1) = ((n + 1 : Nat) : Int) by omega]; exact HE.out, by simp [intOf]; omega⟩
        · have q1 : decide ((A.nd i2).key < k) = false := decide_eq_false (by omega)
          have q2 : decide ((A.nd i2).key > k) = true := decide_eq_true (by omega)
          have q3 : decide (k < (A.nd i2).key) = true := decide_eq_true (by omega)
          have q4 : ((A.nd i2).key == k) = false := by simp; omega
          rw [if_neg (by omega)] at hg
          clear h
          have HG := Lib.hid hg
          clear hg
          go_wp2_with fail
          refine HEN.out.mono ?_
          rintro e w4 ⟨rfl, hb4⟩
          have hx4 := (hb4.block g HGL.out.2).trans HX.out
          have hB4 := HB3.out.calm hb4
          clear x0 x1 x2 x3 x4 x5 x6 x7 hb4
          have x2 : w4.cell? ⟨g, 2, none⟩ = some (.int .u32 ((A.nd i2).left : Int)) := by rw [cell_of_row _ _ _ _ _ _ hx4]; rfl
          have x3 : w4.cell? ⟨g, 3, none⟩ = some (.int .u32 ((A.nd i2).right : Int)) := by rw [cell_of_row _ _ _ _ _ _ hx4]; rfl
          obtain ⟨c0, c1⟩ := two_ofE hB4.hb
          have f0 := frozen_of_row _ _ 0 _ _ hB4.hb
          have f1 := frozen_of_row _ _ 1 _ _ hB4.hb
          have hgne : g ≠ b := by have := HGL.out; omega
          have hgne2 : b ≠ g := by have := HGL.out; omega
          obtain ⟨X, hX⟩ : ∃ X, o.elim (0 : Int) (·.key) = X := ⟨_, rfl⟩
          obtain ⟨Y, hY⟩ : ∃ Y, o.elim (0 : Int) (·.val) = Y := ⟨_, rfl⟩
          rw [hX] at c0
          rw [hY] at c1
          have HE : Hid (Wayafter I w F (.pointer (some pa)) A rd k true R (rd + (t.ht : Int)) r b U (.bool true) (.int .u32 ((A.nd i2).left : Int)) (.int .i64 ((n + 1 : Nat) : Int)) ((w4.setCell ⟨b, 0, none⟩ (.int .i64 (A.nd i2).key)).setCell ⟨b, 1, none⟩ (.int .i64 (A.nd i2).val))) := ⟨_, n + 1, l2, rd1 + 1, some (ndE (A.nd i2)), rfl, rfl, rfl, HSL.out, HG.out, by have := HR1.out; omega, HR1.out.2.1, HNL.out, hB4.put (ndE (A.nd i2))⟩
          clear hx4 hB4 hX hY HX HB3 HEN HG
          go_wp2_with fail
          exact ⟨by rw [show ((n : Int) + 1) = ((n + 1 : Nat) : Int) by omega]; exact HE.out, by simp [intOf]; omega⟩
      | false =>
        rw [show k + (if false = true then 0 else 1) = k + 1 from rfl] at hg
        rcases Int.lt_trichotomy (A.nd i2).key k with h | h | h
        · have q1 : decide ((A.nd i2).key < k) = true := decide_eq_true (by omega)
          have q2 : decide ((A.nd i2).key > k) = false := decide_eq_false (by omega)
          have q3 : decide (k < (A.nd i2).key) = false := decide_eq_false (by omega)
          have q4 : ((A.nd i2).key == k) = false := by simp; omega
          rw [if_pos (by omega)] at hg
          clear h
          have HE : Hid (Wayafter I w F (.pointer (some pa)) A rd k false R (rd + (t.ht : Int)) r b U (.bool o.isSome) (.int .u32 ((A.nd i2).right : Int)) (.int .i64 ((n + 1 : Nat) : Int)) w3) := ⟨_, n + 1, r2, rd1 + 1, o, rfl, rfl, rfl, HSR.out, hg, by have := HR1.out; omega, HR1.out.2.2, HNR.out, HB3.out⟩
          generalize o.isSome = ob at HE ⊢
          clear hg HX HB3 HEN
          go_wp2_with fail
          exact ⟨by rw [show ((n : Int) + 1) = ((n + 1 : Nat) : Int) by omega]; exact HE.out, by simp [intOf]; omega⟩
        · have q1 : decide ((A.nd i2).key < k) = false := decide_eq_false (by omega)
          have q2 : decide ((A.nd i2).key > k) = false := decide_eq_false (by omega)
          have q3 : decide (k < (A.nd i2).key) = false := decide_eq_false (by omega)
          have q4 : ((A.nd i2).key == k) = true := by simp; omega
          rw [if_pos (by omega)] at hg
          clear h
          have HE : Hid (Wayafter I w F (.pointer (some pa)) A rd k false R (rd + (t.ht : Int)) r b U (.bool o.isSome) (.int .u32 ((A.nd i2).right : Int)) (.int .i64 ((n + 1 : Nat) : Int)) w3) := ⟨_, n + 1, r2, rd1 + 1, o, rfl, rfl, rfl, HSR.out, hg, by have := HR1.out; omega, HR1.out.2.2, HNR.out, HB3.out⟩
          generalize o.isSome = ob at HE ⊢
          clear hg HX HB3 HEN
          go_wp2_with fail
          exact ⟨by rw [show ((n : Int) + 1) = ((n + 1 : Nat) : Int) by omega]; exact HE.out, by simp [intOf]; omega⟩
        · have q1 : decide ((A.nd i2).key < k) = false := decide_eq_false (by omega)
          have q2 : decide ((A.nd i2).key > k) = true := decide_eq_true (by omega)
          have q3 : decide (k < (A.nd i2).key) = true := decide_eq_true (by omega)
          have q4 : ((A.nd i2).key == k) = false := by simp; omega
          rw [if_neg (by omega)] at hg
          clear h
          have HG := Lib.hid hg
          clear hg
          go_wp2_with fail
          refine HEN.out.mono ?_
          rintro e w4 ⟨rfl, hb4⟩
          have hx4 := (hb4.block g HGL.out.2).trans HX.out
          have hB4 := HB3.out.calm hb4
          clear x0 x1 x2 x3 x4 x5 x6 x7 hb4
          have x2 : w4.cell? ⟨g, 2, none⟩ = some (.int .u32 ((A.nd i2).left : Int)) := by rw [cell_of_row _ _ _ _ _ _ hx4]; rfl
          have x3 : w4.cell? ⟨g, 3, none⟩ = some (.int .u32 ((A.nd i2).right : Int)) := by rw [cell_of_row _ _ _ _ _ _ hx4]; rfl
          obtain ⟨c0, c1⟩ := two_ofE hB4.hb
          have f0 := frozen_of_row _ _ 0 _ _ hB4.hb
          have f1 := frozen_of_row _ _ 1 _ _ hB4.hb
          have hgne : g ≠ b := by have := HGL.out; omega
          have hgne2 : b ≠ g := by have := HGL.out; omega
          obtain ⟨X, hX⟩ : ∃ X, o.elim (0 : Int) (·.key) = X := ⟨_, rfl⟩
          obtain ⟨Y, hY⟩ : ∃ Y, o.elim (0 : Int) (·.val) = Y := ⟨_, rfl⟩
          rw [hX] at c0
          rw [hY] at c1
          have HE : Hid (Wayafter I w F (.pointer (some pa)) A rd k false R (rd + (t.ht : Int)) r b U (.bool true) (.int .u32 ((A.nd i2).left : Int)) (.int .i64 ((n + 1 : Nat) : Int)) ((w4.setCell ⟨b, 0, none⟩ (.int .i64 (A.nd i2).key)).setCell ⟨b, 1, none⟩ (.int .i64 (A.nd i2).val))) := ⟨_, n + 1, l2, rd1 + 1, some (ndE (A.nd i2)), rfl, rfl, rfl, HSL.out, HG.out, by have := HR1.out; omega, HR1.out.2.1, HNL.out, hB4.put (ndE (A.nd i2))⟩
          clear hx4 hB4 hX hY HX HB3 HEN HG
          go_wp2_with fail
          exact ⟨by rw [show ((n : Int) + 1) = ((n + 1 : Nat) : Int) by omega]; exact HE.out, by simp [intOf]; omega⟩
end Go.Proofs.Ytehaffcjoafkcaa
set_option linter.unusedVariables false
set_option linter.unusedSimpArgs false
namespace Go.Proofs.Ytehaffcjoafkcaa
open Go.RowKit
set_option maxHeartbeats 2000000 in
set_option maxRecDepth 100000 in
theorem floorP_any (I : AImpl) {p : Value} {A : Ar} {rd : Int} {F : Nat → Prop} {i : Nat} {t : Tr} {l : List En} (k : Int) (w : World) (hI : I.Is w p A rd F) (hT : TreeAt A i t l) (h0 : 0 ≤ rd) (h1 : rd ≤ 1099511627776) (hk : i64R k) :
    Calls Try.prog 36 #[p, .int .u32 (i : Int), .int .i64 k] w (ReadsTo I p A rd F (mostI l.length) (enR (floorE l k)) w) := by
  obtain ⟨pa, rfl⟩ := I.ptr hI
  have hin : (Try.prog.info? 31).map (·.size) = some 2 := by kernel_rfl
  have HINF := Lib.hid hin
  have HU : Hid _ := Lib.hid Try.underlying31
  have hv : bef A.nd (k + if true then 1 else 0) t none = floorE l k := by
    rw [show (k + if true then 1 else 0 : Int) = k + 1 from rfl, bef_spec A.nd _ t none (by rw [hT.ents]; exact hT.up), hT.ents, Option.or_none]
    rw [floor_below hT.up]
  have HC : Hid (∀ (wx : World) (F1 : Nat → Prop), I.Is wx (.pointer (some pa)) A rd F1 → Calls Try.prog 58 #[.pointer (some pa), .int .u32 (i : Int), .int .i64 k, .bool true] wx (ReadsTo I (.pointer (some pa)) A rd F1 (mostI l.length) (enR (floorE l k)) wx)) := fun wx F1 hI1 => hv ▸ beforeP_any I k true wx hI1 hT h0 h1
  have hin1 := (In.start hI).alloc (.cells #[.int .i64 0, .int .i64 0] 31)
  have hr1 := heap_alloc_new w (.cells #[.int .i64 0, .int .i64 0] 31)
  clear hI hT h0 h1 hk hv hin
  go_enter Try.func36, Try.ntmps36
  go_upto_region 1 with fail
  generalize w.alloc (Obj.cells #[.int .i64 0, .int .i64 0] 31) = w1 at hin1 hr1 ⊢
  have HIN1 := Lib.hid hin1
  have HR1 := Lib.hid hr1
  clear hin1 hr1
  go_wp2_with fail
  refine (HIN1.out.call fun F1 hI1 => HC.out w1 F1 hI1).mono ?_
  rintro e w2 ⟨rfl, rd2, hin2, hk2, h20, h21⟩
  have hr2 := (hk2 w.heap.size (.inr rfl)).trans HR1.out
  obtain ⟨r0, r1⟩ := two_ofE hr2
  have f0 := frozen_of_row _ _ 0 _ _ hr2
  have f1 := frozen_of_row _ _ 1 _ _ hr2
  obtain ⟨O, hO⟩ : ∃ O, floorE l k = O := ⟨_, rfl⟩
  rw [hO]
  have HO := Lib.hid hO
  have HE : Hid (∀ x y, ReadsTo I (.pointer (some pa)) A rd F (mostI l.length) (enR O) w (.returned (enR O)) ((w2.setCell ⟨w.heap.size, 0, none⟩ (.int .i64 x)).setCell ⟨w.heap.size, 1, none⟩ (.int .i64 y)) ∧
      ((w2.setCell ⟨w.heap.size, 0, none⟩ (.int .i64 x)).setCell ⟨w.heap.size, 1, none⟩ (.int .i64 y)).heap[w.heap.size]? = some (.cells #[.int .i64 x, .int .i64 y] 31 (0, 0))) := fun x y =>
    ⟨(hin2.set2 (g := w.heap.size) (.inr rfl) (Nat.le_refl _) (.int .i64 x) (.int .i64 y)).ends h20 h21, by rw [heap_setCell_same _ _ 1 _ _ _ (heap_setCell_same _ _ 0 _ _ _ hr2)]; rfl⟩
  unfold enR enA at HE ⊢
  obtain ⟨X, hX⟩ : ∃ X, O.elim (0 : Int) (·.key) = X := ⟨_, rfl⟩
  obtain ⟨Y, hY⟩ : ∃ Y, O.elim (0 : Int) (·.val) = Y := ⟨_, rfl⟩
  obtain ⟨Z, hZ⟩ : ∃ Z, O.isSome = Z := ⟨_, rfl⟩
  rw [hX, hY, hZ] at HE ⊢
  have HXX : Hid (enR O = .tuple #[.agg #[.int .i64 X, .int .i64 Y], .bool Z]) := by show _ = _; unfold enR enA; rw [hX, hY, hZ]
  clear hO hX hY hZ hin2 hk2 h20 h21 hr2
  go_wp2_with fail
  refine bodyPost_ret (results_row_tmp rfl _ _ w.heap.size 31 #[.int .i64 X, .int .i64 Y] (0, 0) _ rfl (HE.out X Y).2 HU.out rfl HINF.out) rfl ?_
  rw [HO.out, HXX.out]
  exact (HE.out X Y).1
set_option maxHeartbeats 2000000 in
set_option maxRecDepth 100000 in
theorem ceilingP_any (I : AImpl) {p : Value} {A : Ar} {rd : Int} {F : Nat → Prop} {i : Nat} {t : Tr} {l : List En} (k : Int) (w : World) (hI : I.Is w p A rd F) (hT : TreeAt A i t l) (h0 : 0 ≤ rd) (h1 : rd ≤ 1099511627776) (hk : i64R k) :
    Calls Try.prog 35 #[p, .int .u32 (i : Int), .int .i64 k] w (ReadsTo I p A rd F (mostI l.length) (enR (ceilE l k)) w) := by
  obtain ⟨pa, rfl⟩ := I.ptr hI
  have hin : (Try.prog.info? 31).map (·.size) = some 2 := by kernel_rfl
  have HINF := Lib.hid hin
  have HU : Hid _ := Lib.hid Try.underlying31
  have hv : aft A.nd (k + if true then 0 else 1) t none = ceilE l k := by
    rw [show (k + if true then 0 else 1 : Int) = k + 0 from rfl, aft_spec A.nd _ t none (by rw [hT.ents]; exact hT.up), hT.ents, Option.or_none]
    rw [Int.add_zero]
  have HC : Hid (∀ (wx : World) (F1 : Nat → Prop), I.Is wx (.pointer (some pa)) A rd F1 → Calls Try.prog 57 #[.pointer (some pa), .int .u32 (i : Int), .int .i64 k, .bool true] wx (ReadsTo I (.pointer (some pa)) A rd F1 (mostI l.length) (enR (ceilE l k)) wx)) := fun wx F1 hI1 => hv ▸ afterP_any I k true wx hI1 hT h0 h1
  have hin1 := (In.start hI).alloc (.cells #[.int .i64 0, .int .i64 0] 31)
  have hr1 := heap_alloc_new w (.cells #[.int .i64 0, .int .i64 0] 31)
  clear hI hT h0 h1 hk hv hin
  go_enter Try.func35, Try.ntmps35
  go_upto_region 1 with fail
  generalize w.alloc (Obj.cells #[.int .i64 0, .int .i64 0] 31) = w1 at hin1 hr1 ⊢
  have HIN1 := Lib.hid hin1
  have HR1 := Lib.hid hr1
  clear hin1 hr1
  go_wp2_with fail
  refine (HIN1.out.call fun F1 hI1 => HC.out w1 F1 hI1).mono ?_
  rintro e w2 ⟨rfl, rd2, hin2, hk2, h20, h21⟩
  have hr2 := (hk2 w.heap.size (.inr rfl)).trans HR1.out
  obtain ⟨r0, r1⟩ := two_ofE hr2
  have f0 := frozen_of_row _ _ 0 _ _ hr2
  have f1 := frozen_of_row _ _ 1 _ _ hr2
  obtain ⟨O, hO⟩ : ∃ O, ceilE l k = O := ⟨_, rfl⟩
  rw [hO]
  have HO := Lib.hid hO
  have HE : Hid (∀ x y, ReadsTo I (.pointer (some pa)) A rd F (mostI l.length) (enR O) w (.returned (enR O)) ((w2.setCell ⟨w.heap.size, 0, none⟩ (.int .i64 x)).setCell ⟨w.heap.size, 1, none⟩ (.int .i64 y)) ∧
      ((w2.setCell ⟨w.heap.size, 0, none⟩ (.int .i64 x)).setCell ⟨w.heap.size, 1, none⟩ (.int .i64 y)).heap[w.heap.size]? = some (.cells #[.int .i64 x, .int .i64 y] 31 (0, 0))) := fun x y =>
    ⟨(hin2.set2 (g := w.heap.size) (.inr rfl) (Nat.le_refl _) (.int .i64 x) (.int .i64 y)).ends h20 h21, by rw [heap_setCell_same _ _ 1 _ _ _ (heap_setCell_same _ _ 0 _ _ _ hr2)]; rfl⟩
  unfold enR enA at HE ⊢
  obtain ⟨X, hX⟩ : ∃ X, O.elim (0 : Int) (·.key) = X := ⟨_, rfl⟩
  obtain ⟨Y, hY⟩ : ∃ Y, O.elim (0 : Int) (·.val) = Y := ⟨_, rfl⟩
  obtain ⟨Z, hZ⟩ : ∃ Z, O.isSome = Z := ⟨_, rfl⟩
  rw [hX, hY, hZ] at HE ⊢
  have HXX : Hid (enR O = .tuple #[.agg #[.int .i64 X, .int .i64 Y], .bool Z]) := by show _ = _; unfold enR enA; rw [hX, hY, hZ]
  clear hO hX hY hZ hin2 hk2 h20 h21 hr2
  go_wp2_with fail
  refine bodyPost_ret (results_row_tmp rfl _ _ w.heap.size 31 #[.int .i64 X, .int .i64 Y] (0, 0) _ rfl (HE.out X Y).2 HU.out rfl HINF.out) rfl ?_
  rw [HO.out, HXX.out]
  exact (HE.out X Y).1
theorem ceil_head {l : List En} (h : ∀ e ∈ l, i64R e.key) : ceilE l (-9223372036854775808) = l.head? := by
  have h0 : rankE l (-9223372036854775808) = 0 := rankE_zero fun y hy => by have := (h y hy).1; omega
  unfold ceilE
  rw [h0, show ((0 : Nat) : Int) = ((0 : Nat) : Int) from rfl, selE_nat]
  cases l <;> rfl
theorem floor_last {l : List En} (hu : Up l) (h : ∀ e ∈ l, i64R e.key) : floorE l 9223372036854775807 = l.getLast? := by
  rw [floor_below hu]
  unfold belowE
  rw [rankE_all fun y hy => by have := (h y hy).2; omega, selE_pred]
  cases l with
  | nil => rfl
  | cons a t =>
    rw [if_neg (by simp), List.getLast?_eq_getElem?]
set_option maxHeartbeats 2000000 in
set_option maxRecDepth 100000 in
theorem firstP_any (I : AImpl) {p : Value} {A : Ar} {rd : Int} {F : Nat → Prop} {i : Nat} {t : Tr} {l : List En} (w : World) (hI : I.Is w p A rd F) (hT : TreeAt A i t l) (h0 : 0 ≤ rd) (h1 : rd ≤ 1099511627776) (hW : ∀ e ∈ l, i64R e.key) :
    Calls Try.prog 18 #[p, .int .u32 (i : Int)] w (ReadsTo I p A rd F (mostI l.length) (enR (l.head?)) w) := by
  obtain ⟨pa, rfl⟩ := I.ptr hI
  have hin : (Try.prog.info? 31).map (·.size) = some 2 := by kernel_rfl
  have HINF := Lib.hid hin
  have HU : Hid _ := Lib.hid Try.underlying31
  have hv : ceilE l (-9223372036854775808) = l.head? := ceil_head hW
  have HC : Hid (∀ (wx : World) (F1 : Nat → Prop), I.Is wx (.pointer (some pa)) A rd F1 → Calls Try.prog 35 #[.pointer (some pa), .int .u32 (i : Int), .int .i64 (-9223372036854775808)] wx (ReadsTo I (.pointer (some pa)) A rd F1 (mostI l.length) (enR (l.head?)) wx)) := fun wx F1 hI1 => hv ▸ ceilingP_any I (-9223372036854775808) wx hI1 hT h0 h1 (by unfold i64R; omega)
  have hin1 := (In.start hI).alloc (.cells #[.int .i64 0, .int .i64 0] 31)
  have hr1 := heap_alloc_new w (.cells #[.int .i64 0, .int .i64 0] 31)
  clear hI hT h0 h1 hW hv hin
  go_enter Try.func18, Try.ntmps18
  go_upto_region 1 with fail
  generalize w.alloc (Obj.cells #[.int .i64 0, .int .i64 0] 31) = w1 at hin1 hr1 ⊢
  have HIN1 := Lib.hid hin1
  have HR1 := Lib.hid hr1
  clear hin1 hr1
  go_wp2_with fail
  refine (HIN1.out.call fun F1 hI1 => HC.out w1 F1 hI1).mono ?_
  rintro e w2 ⟨rfl, rd2, hin2, hk2, h20, h21⟩
  have hr2 := (hk2 w.heap.size (.inr rfl)).trans HR1.out
  obtain ⟨r0, r1⟩ := two_ofE hr2
  have f0 := frozen_of_row _ _ 0 _ _ hr2
  have f1 := frozen_of_row _ _ 1 _ _ hr2
  obtain ⟨O, hO⟩ : ∃ O, l.head? = O := ⟨_, rfl⟩
  rw [hO]
  have HO := Lib.hid hO
  have HE : Hid (∀ x y, ReadsTo I (.pointer (some pa)) A rd F (mostI l.length) (enR O) w (.returned (enR O)) ((w2.setCell ⟨w.heap.size, 0, none⟩ (.int .i64 x)).setCell ⟨w.heap.size, 1, none⟩ (.int .i64 y)) ∧
      ((w2.setCell ⟨w.heap.size, 0, none⟩ (.int .i64 x)).setCell ⟨w.heap.size, 1, none⟩ (.int .i64 y)).heap[w.heap.size]? = some (.cells #[.int .i64 x, .int .i64 y] 31 (0, 0))) := fun x y =>
    ⟨(hin2.set2 (g := w.heap.size) (.inr rfl) (Nat.le_refl _) (.int .i64 x) (.int .i64 y)).ends h20 h21, by rw [heap_setCell_same _ _ 1 _ _ _ (heap_setCell_same _ _ 0 _ _ _ hr2)]; rfl⟩
  unfold enR enA at HE ⊢
  obtain ⟨X, hX⟩ : ∃ X, O.elim (0 : Int) (·.key) = X := ⟨_, rfl⟩
  obtain ⟨Y, hY⟩ : ∃ Y, O.elim (0 : Int) (·.val) = Y := ⟨_, rfl⟩
  obtain ⟨Z, hZ⟩ : ∃ Z, O.isSome = Z := ⟨_, rfl⟩
  rw [hX, hY, hZ] at HE ⊢
  have HXX : Hid (enR O = .tuple #[.agg #[.int .i64 X, .int .i64 Y], .bool Z]) := by show _ = _; unfold enR enA; rw [hX, hY, hZ]
  clear hO hX hY hZ hin2 hk2 h20 h21 hr2
  go_wp2_with fail
  refine bodyPost_ret (results_row_tmp rfl _ _ w.heap.size 31 #[.int .i64 X, .int .i64 Y] (0, 0) _ rfl (HE.out X Y).2 HU.out rfl HINF.out) rfl ?_
  rw [HO.out, HXX.out]
  exact (HE.out X Y).1
set_option maxHeartbeats 2000000 in
set_option maxRecDepth 100000 in
theorem lastP_any (I : AImpl) {p : Value} {A : Ar} {rd : Int} {F : Nat → Prop} {i : Nat} {t : Tr} {l : List En} (w : World) (hI : I.Is w p A rd F) (hT : TreeAt A i t l) (h0 : 0 ≤ rd) (h1 : rd ≤ 1099511627776) (hW : ∀ e ∈ l, i64R e.key) :
    Calls Try.prog 19 #[p, .int .u32 (i : Int)] w (ReadsTo I p A rd F (mostI l.length) (enR (l.getLast?)) w) := by
  obtain ⟨pa, rfl⟩ := I.ptr hI
  have hin : (Try.prog.info? 31).map (·.size) = some 2 := by kernel_rfl
  have HINF := Lib.hid hin
  have HU : Hid _ := Lib.hid Try.underlying31
  have hv : floorE l 9223372036854775807 = l.getLast? := floor_last hT.up hW
  have HC : Hid (∀ (wx : World) (F1 : Nat → Prop), I.Is wx (.pointer (some pa)) A rd F1 → Calls Try.prog 36 #[.pointer (some pa), .int .u32 (i : Int), .int .i64 9223372036854775807] wx (ReadsTo I (.pointer (some pa)) A rd F1 (mostI l.length) (enR (l.getLast?)) wx)) := fun wx F1 hI1 => hv ▸ floorP_any I 9223372036854775807 wx hI1 hT h0 h1 (by unfold i64R; omega)
  have hin1 := (In.start hI).alloc (.cells #[.int .i64 0, .int .i64 0] 31)
  have hr1 := heap_alloc_new w (.cells #[.int .i64 0, .int .i64 0] 31)
  clear hI hT h0 h1 hW hv hin
  go_enter Try.func19, Try.ntmps19
  go_upto_region 1 with fail
  generalize w.alloc (Obj.cells #[.int .i64 0, .int .i64 0] 31) = w1 at hin1 hr1 ⊢
  have HIN1 := Lib.hid hin1
  have HR1 := Lib.hid hr1
  clear hin1 hr1
  go_wp2_with fail
  refine (HIN1.out.call fun F1 hI1 => HC.out w1 F1 hI1).mono ?_
  rintro e w2 ⟨rfl, rd2, hin2, hk2, h20, h21⟩
  have hr2 := (hk2 w.heap.size (.inr rfl)).trans HR1.out
  obtain ⟨r0, r1⟩ := two_ofE hr2
  have f0 := frozen_of_row _ _ 0 _ _ hr2
  have f1 := frozen_of_row _ _ 1 _ _ hr2
  obtain ⟨O, hO⟩ : ∃ O, l.getLast? = O := ⟨_, rfl⟩
  rw [hO]
  have HO := Lib.hid hO
  have HE : Hid (∀ x y, ReadsTo I (.pointer (some pa)) A rd F (mostI l.length) (enR O) w (.returned (enR O)) ((w2.setCell ⟨w.heap.size, 0, none⟩ (.int .i64 x)).setCell ⟨w.heap.size, 1, none⟩ (.int .i64 y)) ∧
      ((w2.setCell ⟨w.heap.size, 0, none⟩ (.int .i64 x)).setCell ⟨w.heap.size, 1, none⟩ (.int .i64 y)).heap[w.heap.size]? = some (.cells #[.int .i64 x, .int .i64 y] 31 (0, 0))) := fun x y =>
    ⟨(hin2.set2 (g := w.heap.size) (.inr rfl) (Nat.le_refl _) (.int .i64 x) (.int .i64 y)).ends h20 h21, by rw [heap_setCell_same _ _ 1 _ _ _ (heap_setCell_same _ _ 0 _ _ _ hr2)]; rfl⟩
  unfold enR enA at HE ⊢
  obtain ⟨X, hX⟩ : ∃ X, O.elim (0 : Int) (·.key) = X := ⟨_, rfl⟩
  obtain ⟨Y, hY⟩ : ∃ Y, O.elim (0 : Int) (·.val) = Y := ⟨_, rfl⟩
  obtain ⟨Z, hZ⟩ : ∃ Z, O.isSome = Z := ⟨_, rfl⟩
  rw [hX, hY, hZ] at HE ⊢
  have HXX : Hid (enR O = .tuple #[.agg #[.int .i64 X, .int .i64 Y], .bool Z]) := by show _ = _; unfold enR enA; rw [hX, hY, hZ]
  clear hO hX hY hZ hin2 hk2 h20 h21 hr2
  go_wp2_with fail
  refine bodyPost_ret (results_row_tmp rfl _ _ w.heap.size 31 #[.int .i64 X, .int .i64 Y] (0, 0) _ rfl (HE.out X Y).2 HU.out rfl HINF.out) rfl ?_
  rw [HO.out, HXX.out]
  exact (HE.out X Y).1
theorem lkImpl (I : AImpl) : LkImpl I where
  first := fun w hI hT h0 h1 hk => firstP_any I w hI hT h0 h1 hk
  last := fun w hI hT h0 h1 hk => lastP_any I w hI hT h0 h1 hk
  floor := fun k w hI hT h0 h1 hk => floorP_any I k w hI hT h0 h1 hk
  ceiling := fun k w hI hT h0 h1 hk => ceilingP_any I k w hI hT h0 h1 hk
end Go.Proofs.Ytehaffcjoafkcaa
set_option linter.unusedVariables false
set_option linter.unusedSimpArgs false
namespace Go.Proofs.Ytehaffcjoafkcaa
open Go.RowKit
theorem need_ok {a b c more extra factor : Int} (ha : vld a) (hb : vld b) (hc : vld c) : needI a b c more extra factor = extra + factor * (xhI (a + b + c + more) + 2) := if_pos ⟨ha, hb, hc⟩
theorem vld0 : vld 0 := ⟨by decide, by decide⟩
end Go.Proofs.Ytehaffcjoafkcaa
set_option linter.unusedVariables false
set_option linter.unusedSimpArgs false
namespace Go.Proofs.Ytehaffcjoafkcaa
open Go.RowKit
theorem wt_80 {n : Nat} (h : n ≤ 80) : wt n < 1000000000000 := Nat.lt_of_le_of_lt (wt_mono h) wt_small
theorem leastAbove_any {j : Nat} (h : wt (j + 1) < 1000000000000) (w : World) : Calls Try.prog 76 #[.int .i64 (wt j : Int)] w fun e w' => e = .returned (.int .i64 (wt (j + 1) : Int)) ∧ w' = w := by
  have h1 := wt_succ j
  have h2 : wrap64 ((wt j : Int) + 3) = (wt j : Int) + 3 := by unfold wrap64; omega
  have h3 : wrap64 ((wt j : Int) + 3 - 1) = (wt j : Int) + 2 := by unfold wrap64; omega
  have h4 : wrap64 ((wt j : Int) + wrap64 (((wt j : Int) + 2).tdiv 3)) = (wt (j + 1) : Int) := by
    rw [Int.tdiv_eq_ediv_of_nonneg (by omega)]
    unfold wrap64
    omega
  have H2 := Lib.hid h2
  have H3 := Lib.hid h3
  have H4 := Lib.hid h4
  clear h1 h2 h3 h4 h
  generalize (wt (j + 1) : Int) = Y at H4 ⊢
  generalize (wt j : Int) = X at H2 H3 H4 ⊢
  go_enter Try.func76, Try.ntmps76
  go_wp2_with fail
  go_ret
  exact ⟨by show Ending.returned (Value.int IntKind.i64 (wrap64 (X + wrap64 ((wrap64 (wrap64 (X + 3) - 1)).tdiv 3)))) = _; rw [H2.out, H3.out, H4.out], rfl⟩
theorem weight_any {n : Int} (h0 : 0 ≤ n) (h1 : n ≤ 2147483647) (w : World) : Calls Try.prog 64 #[.int .i64 n] w fun e w' => e = .returned (.int .i64 (n + 1)) ∧ w' = w := by
  have h2 : wrap64 (n + 1) = n + 1 := by unfold wrap64; omega
  have H2 := Lib.hid h2
  clear h0 h1 h2
  go_enter Try.func64, Try.ntmps64
  go_wp2_with fail
  go_ret
  exact ⟨by show Ending.returned (Value.int IntKind.i64 (wrap64 (n + 1))) = _; rw [H2.out], rfl⟩
theorem isSize_any (n : Int) (w : World) : Calls Try.prog 63 #[.int .i64 n] w fun e w' => e = .returned (.bool (decide (0 ≤ n ∧ n ≤ 2147483647))) ∧ w' = w := by
  by_cases h1 : 0 ≤ n
  · have hd : decide (n ≥ 0) = true := decide_eq_true h1
    have hd2 : decide (0 ≤ n) = true := decide_eq_true h1
    by_cases h2 : n ≤ 2147483647
    · have hd3 : decide (n ≤ 2147483647) = true := decide_eq_true h2
      have HE : Hid (decide (0 ≤ n ∧ n ≤ 2147483647) = true) := decide_eq_true ⟨h1, h2⟩
      clear h1 h2
      go_enter Try.func63, Try.ntmps63
      go_wp2_with fail
      go_ret
      exact ⟨by rw [HE.out]; rfl, rfl⟩
    · have hd3 : decide (n ≤ 2147483647) = false := decide_eq_false h2
      have HE : Hid (decide (0 ≤ n ∧ n ≤ 2147483647) = false) := decide_eq_false (fun h => h2 h.2)
      clear h1 h2
      go_enter Try.func63, Try.ntmps63
      go_wp2_with fail
      go_ret
      exact ⟨by rw [HE.out]; rfl, rfl⟩
  · have hd : decide (n ≥ 0) = false := decide_eq_false h1
    have hd2 : decide (0 ≤ n) = false := decide_eq_false h1
    have HE : Hid (decide (0 ≤ n ∧ n ≤ 2147483647) = false) := decide_eq_false (fun h => h1 h.1)
    clear h1
    go_enter Try.func63, Try.ntmps63
    go_wp2_with fail
    go_ret
    exact ⟨by rw [HE.out]; rfl, rfl⟩
set_option maxHeartbeats 1000000 in
set_option maxRecDepth 100000 in
theorem maxHeight_any (n : Int) (w : World) (h0 : -9223372036854775808 ≤ n) (h1 : n ≤ 9223372036854775807) : Calls Try.prog 59 #[.int .i64 n] w (Calm w (.int .i64 (xhI n))) := by
  by_cases hr : 0 ≤ n ∧ n ≤ 2147483647
  · obtain ⟨m, rfl⟩ := Int.eq_ofNat_of_zero_le hr.1
    have hm : m ≤ 2147483647 := by omega
    have HM := Lib.hid hm
    have HD : Hid (decide (0 ≤ (m : Int) ∧ (m : Int) ≤ 2147483647) = true) := decide_eq_true hr
    have HX : Hid (xhI (m : Int) = (xh m : Int)) := by
      show xhI (m : Int) = _
      unfold xhI
      rw [if_pos hr, Int.toNat_natCast]
    clear hr h0 h1 hm
    go_enter Try.func59, Try.ntmps59
    go_wp2_with fail
    refine (isSize_any (m : Int) w).mono ?_
    rintro e w1 ⟨rfl, rfl⟩
    rw [HD.out]
    go_wp2_with fail
    refine (leastAbove_any (j := 0) (by decide) w1).mono ?_
    rintro e w2 ⟨rfl, rfl⟩
    go_wp2_with fail
    go_loopw [3, 4] (fun x y wr => ∃ j : Nat, x = .int .i64 (j : Int) ∧ y = .int .i64 (wt (j + 1) : Int) ∧ j < 80 ∧ wt j - 1 ≤ m ∧ wr = w2) (fun x _ _ => 80 - (intOf x).toNat)
    case atStart => exact ⟨0, rfl, rfl, by omega, by unfold wt; omega, rfl⟩
    case round =>
      obtain ⟨j, rfl, rfl, hj, hwj, rfl⟩ := hrel
      have HJ : Hid (j < 80 ∧ wt j - 1 ≤ m) := ⟨hj, hwj⟩
      have hwp := wt_pos (j + 1)
      obtain ⟨V, hV⟩ : ∃ V, wt (j + 1) = V := ⟨_, rfl⟩
      have HV := Lib.hid hV
      have HM1 : Hid ((0 : Int) ≤ (m : Int) ∧ (m : Int) ≤ 2147483647) := ⟨by omega, by have := HM.out; omega⟩
      rw [hV]
      by_cases hle : V ≤ m + 1
      · have hj1 : j + 1 < 80 := by
          rcases Nat.lt_or_ge (j + 1) 80 with h | h
          · exact h
          · have h1 := wt_mono h
            have h2 := wt_big
            have h3 := HM.out
            omega
        have hw82 := wt_80 (show j + 1 + 1 ≤ 80 by omega)
        have hlei : decide ((V : Int) ≤ (m : Int) + 1) = true := decide_eq_true (by omega)
        have hleN : decide (V ≤ m + 1) = true := decide_eq_true hle
        have hw1 : IntKind.i64.wrap ((j : Int) + 1) = (j : Int) + 1 := by rw [IntKind.wrap_i64]; omega
        have HN : Hid (∃ k : Nat, ((j : Int) + 1 : Int) = (k : Int) ∧ (wt (j + 1 + 1) : Int) = (wt (k + 1) : Int) ∧ k < 80 ∧ wt k - 1 ≤ m) := ⟨j + 1, by omega, rfl, hj1, by omega⟩
        have HLA : Hid (∀ w : World, Calls Try.prog 76 #[.int .i64 (V : Int)] w fun e w' => e = .returned (.int .i64 (wt (j + 1 + 1) : Int)) ∧ w' = w) := fun w => by
          rw [← hV]; exact leastAbove_any hw82 w
        have HLE : Hid (V ≤ m + 1) := hle
        clear hj hwj hwp hV hj1 hw82 hle
        generalize wt (j + 1 + 1) = U at HN HLA
        go_wp2_with fail
        refine (weight_any HM1.out.1 HM1.out.2 wr).mono ?_
        rintro e w3 ⟨rfl, rfl⟩
        go_wp2_with fail
        refine (HLA.out w3).mono ?_
        rintro e w4 ⟨rfl, rfl⟩
        go_wp2_with fail
        obtain ⟨k, h1, h2, h3, h4⟩ := HN.out
        exact ⟨⟨k, by rw [h1], by rw [h2], h3, h4, trivial⟩, by have := HJ.out; simp [intOf]; omega⟩
      · have hlei : decide ((V : Int) ≤ (m : Int) + 1) = false := decide_eq_false (by omega)
        have hleN : decide (V ≤ m + 1) = false := decide_eq_false hle
        have hleM : ¬ V ≤ m + 1 := hle
        have HE : Hid (xhI (m : Int) = (j : Int)) := by
          show xhI (m : Int) = _
          rw [HX.out, xh_of HM.out HJ.out.2 (by omega)]
        clear hj hwj hwp hV hle
        go_wp2_with fail
        refine (weight_any HM1.out.1 HM1.out.2 wr).mono ?_
        rintro e w3 ⟨rfl, rfl⟩
        go_wp2_with fail
        go_ret
        exact ⟨by rw [HE.out]; rfl, Below.refl _ _⟩
  · have HE : Hid (xhI n = -1) := if_neg hr
    have HD : Hid (decide (0 ≤ n ∧ n ≤ 2147483647) = false) := decide_eq_false hr
    clear hr h0 h1
    go_enter Try.func59, Try.ntmps59
    go_wp2_with fail
    refine (isSize_any n w).mono ?_
    rintro e w1 ⟨rfl, rfl⟩
    rw [HD.out]
    go_wp2_with fail
    go_ret
    exact ⟨by rw [HE.out]; rfl, Below.refl _ _⟩
set_option maxHeartbeats 1000000 in
set_option maxRecDepth 100000 in
theorem balancedP_any (l r : Int) (w : World) (hl0 : -9223372036854775808 ≤ l) (hl1 : l ≤ 9223372036854775807) (hr0 : -9223372036854775808 ≤ r) (hr1 : r ≤ 9223372036854775807) : Calls Try.prog 43 #[.int .i64 l, .int .i64 r] w (Calm w (.bool (bal l r))) := by
  by_cases hl : 0 ≤ l ∧ l ≤ 2147483647
  · have HL : Hid (decide (0 ≤ l ∧ l ≤ 2147483647) = true) := decide_eq_true hl
    by_cases hr : 0 ≤ r ∧ r ≤ 2147483647
    · have HR : Hid (decide (0 ≤ r ∧ r ≤ 2147483647) = true) := decide_eq_true hr
      have w1 : IntKind.i64.wrap (l + 1) = l + 1 := by rw [IntKind.wrap_i64]; omega
      have w2 : IntKind.i64.wrap (r + 1) = r + 1 := by rw [IntKind.wrap_i64]; omega
      have w3 : IntKind.i64.wrap (3 * (l + 1)) = 3 * (l + 1) := by rw [IntKind.wrap_i64]; omega
      have w4 : IntKind.i64.wrap (3 * (r + 1)) = 3 * (r + 1) := by rw [IntKind.wrap_i64]; omega
      have HB : Hid (bal l r = (decide (l + 1 ≤ 3 * (r + 1)) && decide (r + 1 ≤ 3 * (l + 1)))) := by
        show bal l r = _
        unfold bal
        rw [← Bool.decide_and]
        exact decide_eq_decide.2 (by omega)
      have HLI := Lib.hid hl
      have HRI := Lib.hid hr
      generalize hb1 : decide (l + 1 ≤ 3 * (r + 1)) = b1 at HB
      generalize hb2 : decide (r + 1 ≤ 3 * (l + 1)) = b2 at HB
      clear hl hr hl0 hl1 hr0 hr1
      cases b1
      all_goals (
        go_enter Try.func43, Try.ntmps43
        go_wp2_with fail
        refine (isSize_any l w).mono ?_
        rintro e w5 ⟨rfl, rfl⟩
        rw [HL.out]
        go_wp2_with fail
        refine (isSize_any r w5).mono ?_
        rintro e w6 ⟨rfl, rfl⟩
        rw [HR.out]
        go_wp2_with fail
        refine (weight_any HLI.out.1 HLI.out.2 w6).mono ?_
        rintro e w7 ⟨rfl, rfl⟩
        go_wp2_with fail
        refine (weight_any HRI.out.1 HRI.out.2 w7).mono ?_
        rintro e w8 ⟨rfl, rfl⟩
        go_wp2_with fail
        go_ret
        exact ⟨by rw [HB.out]; rfl, Below.refl _ _⟩)
    · have HR : Hid (decide (0 ≤ r ∧ r ≤ 2147483647) = false) := decide_eq_false hr
      have HB : Hid (bal l r = false) := decide_eq_false (fun h => hr ⟨h.2.2.1, h.2.2.2.1⟩)
      clear hl hr hl0 hl1 hr0 hr1
      go_enter Try.func43, Try.ntmps43
      go_wp2_with fail
      refine (isSize_any l w).mono ?_
      rintro e w5 ⟨rfl, rfl⟩
      rw [HL.out]
      go_wp2_with fail
      refine (isSize_any r w5).mono ?_
      rintro e w6 ⟨rfl, rfl⟩
      rw [HR.out]
      go_wp2_with fail
      go_ret
      exact ⟨by rw [HB.out]; rfl, Below.refl _ _⟩
  · have HL : Hid (decide (0 ≤ l ∧ l ≤ 2147483647) = false) := decide_eq_false hl
    have HB : Hid (bal l r = false) := decide_eq_false (fun h => hl ⟨h.1, h.2.1⟩)
    clear hl hl0 hl1 hr0 hr1
    go_enter Try.func43, Try.ntmps43
    go_wp2_with fail
    refine (isSize_any l w).mono ?_
    rintro e w5 ⟨rfl, rfl⟩
    rw [HL.out]
    go_wp2_with fail
    go_ret
    exact ⟨by rw [HB.out]; rfl, Below.refl _ _⟩
end Go.Proofs.Ytehaffcjoafkcaa
set_option linter.unusedVariables false
set_option linter.unusedSimpArgs false
namespace Go.Proofs.Ytehaffcjoafkcaa
open Go.RowKit
theorem valid_any (n : Int) (w : World) : Calls Try.prog 38 #[.int .i64 n] w fun e w' => e = .returned (.bool (decide (vld n))) ∧ w' = w := by
  by_cases h1 : 0 ≤ n
  · have hd : decide (n ≥ 0) = true := decide_eq_true h1
    have hd2 : decide (0 ≤ n) = true := decide_eq_true h1
    by_cases h2 : n ≤ 65536
    · have hd3 : decide (n ≤ 65536) = true := decide_eq_true h2
      have HE : Hid (decide (vld n) = true) := decide_eq_true ⟨h1, h2⟩
      clear h1 h2
      go_enter Try.func38, Try.ntmps38
      go_wp2_with fail
      go_ret
      exact ⟨by rw [HE.out]; rfl, rfl⟩
    · have hd3 : decide (n ≤ 65536) = false := decide_eq_false h2
      have HE : Hid (decide (vld n) = false) := decide_eq_false (fun h => h2 h.2)
      clear h1 h2
      go_enter Try.func38, Try.ntmps38
      go_wp2_with fail
      go_ret
      exact ⟨by rw [HE.out]; rfl, rfl⟩
  · have hd : decide (n ≥ 0) = false := decide_eq_false h1
    have hd2 : decide (0 ≤ n) = false := decide_eq_false h1
    have HE : Hid (decide (vld n) = false) := decide_eq_false (fun h => h1 h.1)
    clear h1
    go_enter Try.func38, Try.ntmps38
    go_wp2_with fail
    go_ret
    exact ⟨by rw [HE.out]; rfl, rfl⟩
theorem pathR_any (n : Int) (w : World) (h0 : 0 ≤ n) (h1 : n ≤ 1000000) : Calls Try.prog 39 #[.int .i64 n] w (Calm w (.int .i64 (xhI n + 2))) := by
  have hX := xhI_in h0 h1
  have HC := Lib.hid (maxHeight_any n w (by omega) (by omega))
  obtain ⟨X, hXX⟩ : ∃ X, xhI n = X := ⟨_, rfl⟩
  rw [hXX] at hX HC ⊢
  have w4 : IntKind.i64.wrap (X + 2) = X + 2 := by rw [IntKind.wrap_i64]; omega
  clear h0 h1 hX hXX
  go_enter Try.func39, Try.ntmps39
  go_wp2_with fail
  refine HC.out.mono ?_
  rintro e w1 ⟨rfl, hb⟩
  have HB := Lib.hid hb
  clear hb
  go_wp2_with fail
  go_ret
  exact ⟨rfl, HB.out⟩
theorem path_in {f n : Int} (hf : 0 ≤ f ∧ f ≤ 12) (h0 : 0 ≤ n) (h1 : n ≤ 1000000) : 0 ≤ f * (xhI n + 2) ∧ f * (xhI n + 2) ≤ 984 := by
  have hX := xhI_in h0 h1
  have h4 : f * (xhI n + 2) ≤ 12 * 82 := Int.mul_le_mul hf.2 (by omega) (by omega) (by decide)
  exact ⟨Int.mul_nonneg hf.1 (by omega), by omega⟩
set_option maxHeartbeats 1000000 in
set_option maxRecDepth 100000 in
theorem rsJoin_any (l r : Int) (w : World) (hl : in64 l) (hr : in64 r) : Calls Try.prog 23 #[.int .i64 l, .int .i64 r] w (Calm w (.int .i64 (joinI l r))) := by
  by_cases vl : vld l
  rotate_left
  · have HE : Hid (joinI l r = -1) := by show joinI l r = -1; unfold joinI needI; rw [if_neg (fun h => vl h.1)]
    have HV : Hid (decide (vld l) = false) := decide_eq_false vl
    clear hl hr vl
    go_enter Try.func23, Try.ntmps23
    go_wp2_with fail
    refine (valid_any l _).mono ?_
    rintro e wv ⟨rfl, rfl⟩
    rw [HV.out]
    go_wp2_with fail
    go_ret
    exact ⟨by rw [HE.out]; rfl, Below.refl _ _⟩
  by_cases vr : vld r
  rotate_left
  · have HE : Hid (joinI l r = -1) := by show joinI l r = -1; unfold joinI needI; rw [if_neg (fun h => vr h.2.1)]
    have HV : Hid (decide (vld r) = false) := decide_eq_false vr
    have HVl : Hid (decide (vld l) = true) := decide_eq_true vl
    clear hl hr vl vr
    go_enter Try.func23, Try.ntmps23
    go_wp2_with fail
    refine (valid_any l _).mono ?_
    rintro e wv ⟨rfl, rfl⟩
    rw [HVl.out]
    go_wp2_with fail
    refine (valid_any r _).mono ?_
    rintro e wv ⟨rfl, rfl⟩
    rw [HV.out]
    go_wp2_with fail
    go_ret
    exact ⟨by rw [HE.out]; rfl, Below.refl _ _⟩
  have hE : joinI l r = 0 + 4 * (xhI (l + r + 0 + 1) + 2) := need_ok vl vr vld0
  have HVl : Hid (decide (vld l) = true) := decide_eq_true vl
  have HVr : Hid (decide (vld r) = true) := decide_eq_true vr
  rw [show l + r + 0 + 1 = l + r + 1 by omega] at hE
  have har : 0 ≤ l + r + 1 ∧ l + r + 1 ≤ 1000000 := by unfold vld at vl vr; omega
  have hpi := path_in (f := 4) ⟨by decide, by decide⟩ har.1 har.2
  have HC : Hid (∀ wx, Calls Try.prog 39 #[.int .i64 (l + r + 1)] wx (Calm wx (.int .i64 (xhI (l + r + 1) + 2)))) := fun wx => pathR_any (l + r + 1) wx har.1 har.2
  obtain ⟨Q, hQ⟩ : ∃ Q, xhI (l + r + 1) + 2 = Q := ⟨_, rfl⟩
  rw [hQ] at hE hpi HC
  have hq1 : IntKind.i64.wrap (4 * Q) = 4 * Q := by rw [IntKind.wrap_i64]; omega
  have hs0 : IntKind.i64.wrap (l + r) = l + r := by unfold vld at vl vr; rw [IntKind.wrap_i64]; omega
  have hs1 : IntKind.i64.wrap (l + r + 1) = l + r + 1 := by unfold vld at vl vr; rw [IntKind.wrap_i64]; omega
  have HE := Lib.hid hE
  clear hE har hpi hQ hl vl hr vr
  go_enter Try.func23, Try.ntmps23
  go_wp2_with fail
  refine (valid_any l _).mono ?_
  rintro e wv ⟨rfl, rfl⟩
  rw [HVl.out]
  go_wp2_with fail
  refine (valid_any r _).mono ?_
  rintro e wv ⟨rfl, rfl⟩
  rw [HVr.out]
  go_wp2_with fail
  refine (HC.out _).mono ?_
  rintro e w2 ⟨rfl, hb2⟩
  have HB2 := Lib.hid hb2
  clear hb2
  go_wp2_with fail
  go_ret
  exact ⟨by rw [HE.out, Int.zero_add]; rfl, HB2.out⟩
set_option maxHeartbeats 1000000 in
set_option maxRecDepth 100000 in
theorem rsSplit_any (n : Int) (w : World) (hn : in64 n) : Calls Try.prog 21 #[.int .i64 n] w (Calm w (.int .i64 (splitI n))) := by
  by_cases vn : vld n
  rotate_left
  · have HE : Hid (splitI n = -1) := by show splitI n = -1; unfold splitI needI; rw [if_neg (fun h => vn h.1)]
    have HV : Hid (decide (vld n) = false) := decide_eq_false vn
    clear hn vn
    go_enter Try.func21, Try.ntmps21
    go_wp2_with fail
    refine (valid_any n _).mono ?_
    rintro e wv ⟨rfl, rfl⟩
    rw [HV.out]
    go_wp2_with fail
    go_ret
    exact ⟨by rw [HE.out]; rfl, Below.refl _ _⟩
  have hE : splitI n = 0 + 12 * (xhI (n + 0 + 0 + 0) + 2) := need_ok vn vld0 vld0
  have HVn : Hid (decide (vld n) = true) := decide_eq_true vn
  rw [show n + 0 + 0 + 0 = n by omega] at hE
  have har : 0 ≤ n ∧ n ≤ 1000000 := by unfold vld at vn; omega
  have hpi := path_in (f := 12) ⟨by decide, by decide⟩ har.1 har.2
  have HC : Hid (∀ wx, Calls Try.prog 39 #[.int .i64 (n)] wx (Calm wx (.int .i64 (xhI (n) + 2)))) := fun wx => pathR_any (n) wx har.1 har.2
  obtain ⟨Q, hQ⟩ : ∃ Q, xhI (n) + 2 = Q := ⟨_, rfl⟩
  rw [hQ] at hE hpi HC
  have hq1 : IntKind.i64.wrap (12 * Q) = 12 * Q := by rw [IntKind.wrap_i64]; omega
  have HE := Lib.hid hE
  clear hE har hpi hQ hn vn
  go_enter Try.func21, Try.ntmps21
  go_wp2_with fail
  refine (valid_any n _).mono ?_
  rintro e wv ⟨rfl, rfl⟩
  rw [HVn.out]
  go_wp2_with fail
  refine (HC.out _).mono ?_
  rintro e w2 ⟨rfl, hb2⟩
  have HB2 := Lib.hid hb2
  clear hb2
  go_wp2_with fail
  go_ret
  exact ⟨by rw [HE.out, Int.zero_add]; rfl, HB2.out⟩
end Go.Proofs.Ytehaffcjoafkcaa
set_option linter.unusedVariables false
set_option linter.unusedSimpArgs false
namespace Go.Proofs.Ytehaffcjoafkcaa
open Go.RowKit
theorem allLtJ {l : List En} (hu : Up l) (k : Int) : AllLt l k ↔ ∀ x, l.getLast? = some x → x.key < k := by
  constructor
  · intro h x hx
    exact h x (List.mem_of_getLast? hx)
  · intro h y hy
    obtain ⟨x, hx⟩ : ∃ x, l.getLast? = some x := ⟨_, List.getLast?_eq_some_getLast (fun e => by rw [e] at hy; cases hy)⟩
    have h0 := h x hx
    obtain ⟨i, hi, rfl⟩ := List.mem_iff_getElem.1 hy
    rw [List.getLast?_eq_getElem?] at hx
    obtain ⟨hj, rfl⟩ := List.getElem?_eq_some_iff.1 hx
    rcases Nat.lt_or_ge i (l.length - 1) with h2 | h2
    · have := List.pairwise_iff_getElem.1 hu i (l.length - 1) hi hj h2; omega
    · have h3 : i = l.length - 1 := by omega
      subst h3; exact h0
theorem allGtJ {l : List En} (hu : Up l) (k : Int) : AllGt l k ↔ ∀ x, l.head? = some x → k < x.key := by
  constructor
  · intro h x hx
    exact h x (List.mem_of_mem_head? hx)
  · intro h y hy
    cases l with
    | nil => cases hy
    | cons z t =>
      have h0 := h z rfl
      rcases List.mem_cons.1 hy with rfl | hy
      · exact h0
      · have := (List.pairwise_cons.1 hu).1 y hy; omega
theorem results_tmp5 {fn : Func} {a b c d e : Tmp} (h : fn.results = #[.tmp a, .tmp b, .tmp c, .tmp d, .tmp e]) (tmps : Array Value) (P : Program) (w : World) :
    (results fn tmps).run P w = .ok (.tuple #[tmps.getD a undef, tmps.getD b undef, tmps.getD c undef, tmps.getD d undef, tmps.getD e undef]) w := by
  simp [results, h]
theorem numJ : ShNum := ⟨maxHeight_any, balancedP_any⟩
theorem TreeAt.few {A : Ar} {i : Nat} {t : Tr} {l : List En} (h : TreeAt A i t l) : l.length ≤ 65536 := by
  obtain ⟨held, hv⟩ := h.inv
  have h1 := h.held
  have h2 := h.size
  have h3 := hv.ok.cap2
  omega
theorem TreeAt.idx' {A : Ar} {i : Nat} {t : Tr} {l : List En} (h : TreeAt A i t l) : A.Idx i := h.sub.idx
theorem joinJ {n m : Nat} (hn : n ≤ 65536) (hm : m ≤ 65536) : joinI (n : Int) (m : Int) = 4 * ((xh (n + m + 1) : Int) + 2) := by
  unfold joinI needI
  have hv : vld (n : Int) ∧ vld (m : Int) ∧ vld 0 := by unfold vld; omega
  rw [if_pos hv, show (n : Int) + (m : Int) + 0 + 1 = ((n + m + 1 : Nat) : Int) by omega, xhI_nat (by omega)]
  omega
theorem splitJ {n : Nat} (hn : n ≤ 65536) : splitI (n : Int) = 12 * ((xh n : Int) + 2) := by
  unfold splitI needI
  have hv : vld (n : Int) ∧ vld 0 ∧ vld 0 := by unfold vld; omega
  rw [if_pos hv, show (n : Int) + 0 + 0 + 0 = (n : Int) by omega, xhI_nat (by omega)]
  omega
set_option maxHeartbeats 32000000 in
set_option maxRecDepth 100000 in
theorem joinP_any (I : AImpl) {p : Value} {A : Ar} {rd : Int} {F : Nat → Prop} {held : Nat → Nat} {L R : Nat} {tl tr : Tr} {ll lr : List En} (e : En) (w : World) (hI : I.Is w p A rd F) (hv : A.Inv [] held) (hm : ∀ j, held j ≤ 1048000) (hL : TreeAt A L tl ll) (hR : TreeAt A R tr lr) (hwl : WfL ll) (hwr : WfL lr) (h0 : 0 ≤ rd) (h1 : rd ≤ 1099511000000) (hk : i64R e.key) (hx : i64R e.val) :
    Calls Try.prog 9 #[p, .int .u32 (L : Int), .agg #[.int .i64 e.key, .int .i64 e.val], .int .u32 (R : Int)] w (Mut I p F (JoinQ A rd held L R ll lr e) w) := by
  obtain ⟨pa, rfl⟩ := I.ptr hI
  have hs0 := (Ins.start hI).box #[Value.int .i64 e.key, .int .i64 e.val] 31
  have HV := Lib.hid hv
  have HM := Lib.hid hm
  have HL := Lib.hid hL
  have HR := Lib.hid hR
  have HW : Hid (WfL ll ∧ WfL lr ∧ i64R e.key ∧ i64R e.val) := ⟨hwl, hwr, hk, hx⟩
  have HRD : Hid (0 ≤ rd ∧ rd ≤ 1099511000000) := ⟨h0, h1⟩
  have hn := hL.few
  have hm' := hR.few
  have x1 := xh_up (m := ll.length) (n := ll.length + lr.length + 1) (by omega) (by omega)
  have x2 := xh_up (m := lr.length) (n := ll.length + lr.length + 1) (by omega) (by omega)
  have HN : Hid (ll.length ≤ 65536 ∧ lr.length ≤ 65536) := ⟨hn, hm'⟩
  have HJ : Hid (jd tl tr ≤ xh (ll.length + lr.length + 1)) := by
    have := jd_xh hL.bal hR.bal (by rw [hL.size, hR.size]; omega)
    rw [hL.size, hR.size] at this
    exact this
  have HB : Hid (mostI ll.length + mostI lr.length + 2 + 14 * (jd tl tr : Int) + 2 ≤ joinBd ll.length lr.length ∧ 0 ≤ mostI ll.length ∧ 0 ≤ mostI lr.length ∧ mostI ll.length ≤ 1000 ∧ mostI lr.length ≤ 1000 ∧ (jd tl tr : Int) ≤ 100 ∧ joinI (ll.length : Int) (lr.length : Int) = 4 * ((xh (ll.length + lr.length + 1) : Int) + 2)) := by
    have h1 := HJ.out
    have h2 := (xh_spec (n := ll.length + lr.length + 1) (by omega)).2.1
    refine ⟨?_, ?_, ?_, ?_, ?_, by omega, joinJ hn hm'⟩ <;> (try unfold joinBd) <;> (try unfold mostI) <;> omega
  have HZ : Hid (A.sz L = (ll.length : Int) ∧ A.sz R = (lr.length : Int) ∧ A.Idx L ∧ A.Idx R ∧ L < 4294967296 ∧ R < 4294967296) := ⟨hL.at_.sz hL.agg, hR.at_.sz hL.agg, hL.idx', hR.idx', hL.idx, hR.idx⟩
  have hlt := allLtJ hL.up e.key
  have hgt := allGtJ hR.up e.key
  obtain ⟨ol, hol⟩ : ∃ o, ll.getLast? = o := ⟨_, rfl⟩
  obtain ⟨og, hog⟩ : ∃ o, lr.head? = o := ⟨_, rfl⟩
  rw [hol] at hlt
  rw [hog] at hgt
  have HOL := Lib.hid hol
  have HOG := Lib.hid hog
  have HLT := Lib.hid hlt
  have HGT := Lib.hid hgt
  clear hI hv hm hL hR hwl hwr h0 h1 hk hx hn hm' hlt hgt hol hog x1 x2
  go_enter Try.func9, Try.ntmps9
  go_upto_region 1 with fail
  generalize w.alloc (Obj.cells #[Value.int .i64 e.key, .int .i64 e.val] 31) = w1 at hs0 ⊢
  generalize w.heap.size = ge at hs0 ⊢
  have HS0 := Lib.hid hs0
  clear hs0
  go_wp2_with fail
  refine (HS0.out.call fun F1 hI1 => (lkImpl I).last w1 hI1 HL.out HRD.out.1 (by have := HRD.out; omega) (fun y hy => (HW.out.1 y hy).1)).mono ?_
  rintro en w2 ⟨rfl, rd1, hs, r1, r2⟩
  rw [HOL.out]
  have HR1 : Hid (rd ≤ rd1 ∧ rd1 ≤ rd + mostI ll.length) := ⟨r1, r2⟩
  unfold enR enA
  have hs1 := hs.box #[Value.int .i64 (ol.elim 0 (·.key)), .int .i64 (ol.elim 0 (·.val))] 31
  clear hs HS0 r1 r2
  go_upto_region 2 with fail
  generalize w2.alloc (Obj.cells #[Value.int .i64 (ol.elim 0 (·.key)), .int .i64 (ol.elim 0 (·.val))] 31) = w3 at hs1 ⊢
  generalize w2.heap.size = ga at hs1 ⊢
  have HS1 := Lib.hid hs1
  clear hs1
  go_wp2_with fail
  refine (HS1.out.call fun F1 hI1 => (lkImpl I).first w3 hI1 HR.out (by have := HRD.out; have := HR1.out; omega) (by have := HRD.out; have := HR1.out; have := HB.out; omega) (fun y hy => (HW.out.2.1 y hy).1)).mono ?_
  rintro en w4 ⟨rfl, rd2, hs, r1, r2⟩
  rw [HOG.out]
  have HR2 : Hid (rd ≤ rd2 ∧ rd2 ≤ rd + mostI ll.length + mostI lr.length) := ⟨by have := HR1.out; omega, by have := HR1.out; omega⟩
  have hs2 := hs.box #[Value.int .i64 (og.elim 0 (·.key)), .int .i64 (og.elim 0 (·.val))] 31
  clear hs HS1 r1 r2
  unfold enR enA
  go_upto_region 3 with fail
  generalize w4.alloc (Obj.cells #[Value.int .i64 (og.elim 0 (·.key)), .int .i64 (og.elim 0 (·.val))] 31) = w5 at hs2 ⊢
  generalize w4.heap.size = gb at hs2 ⊢
  have HS2 := Lib.hid hs2
  clear hs2
  obtain ⟨y0, y1⟩ := two_ofE (HS2.out.boxes (ge, Obj.cells #[Value.int .i64 e.key, .int .i64 e.val] 31 (0, 0)) (by simp)).2
  obtain ⟨z0, z1⟩ := two_ofE (HS2.out.boxes (gb, Obj.cells #[Value.int .i64 (og.elim 0 (·.key)), .int .i64 (og.elim 0 (·.val))] 31 (0, 0)) (by simp)).2
  obtain ⟨u0, u1⟩ := two_ofE (HS2.out.boxes (ga, Obj.cells #[Value.int .i64 (ol.elim 0 (·.key)), .int .i64 (ol.elim 0 (·.val))] 31 (0, 0)) (by simp)).2
  obtain ⟨KL, hKL⟩ : ∃ K, ol.elim (0 : Int) (·.key) = K := ⟨_, rfl⟩
  obtain ⟨KG, hKG⟩ : ∃ K, og.elim (0 : Int) (·.key) = K := ⟨_, rfl⟩
  obtain ⟨BL, hBL⟩ : ∃ K, ol.isSome = K := ⟨_, rfl⟩
  obtain ⟨BG, hBG⟩ : ∃ K, og.isSome = K := ⟨_, rfl⟩
  rw [hKL] at u0
  rw [hKG] at z0
  rw [hBL, hBG]
  have HLTB : Hid (AllLt ll e.key ↔ (BL = true → KL < e.key)) := by
    have h := HLT.out
    refine h.trans ?_
    cases ol with
    | none => simp at hBL; subst hBL; simp
    | some x => simp at hBL hKL; subst hBL hKL; simp
  have HGTB : Hid (AllGt lr e.key ↔ (BG = true → e.key < KG)) := by
    have h := HGT.out
    refine h.trans ?_
    cases og with
    | none => simp at hBG; subst hBG; simp
    | some x => simp at hBG hKG; subst hBG hKG; simp
  clear hKL hKG hBL hBG
  have HEND := Lib.hid HS2.out.ends
  have hcase : (BL = true ∧ e.key ≤ KL) ∨ ((BL = true ∧ KL < e.key) ∧ (BG = true ∧ KG ≤ e.key)) ∨ (BL = false ∧ (BG = true ∧ KG ≤ e.key)) ∨ ((BL = true ∧ KL < e.key) ∧ (BG = true ∧ e.key < KG)) ∨ ((BL = true ∧ KL < e.key) ∧ BG = false) ∨ (BL = false ∧ (BG = true ∧ e.key < KG)) ∨ (BL = false ∧ BG = false) := by
    cases BL <;> cases BG <;> simp <;> omega
  have HBAD : Hid (¬ (AllLt ll e.key ∧ AllGt lr e.key) → ∀ rdx, rd ≤ rdx → rdx ≤ rd + joinBd ll.length lr.length → JoinQ A rd held L R ll lr e (.returned (.tuple #[.int .u32 0, .int .i64 7])) A rdx) := fun hn rdx h1 h2 => ⟨h1, h2, .inl ⟨hn, rfl, rfl⟩⟩
  have HRB : Hid (rd ≤ rd2 ∧ rd2 ≤ rd + joinBd ll.length lr.length) := ⟨HR2.out.1, by have := HR2.out; have := HB.out; omega⟩
  rcases hcase with ⟨rfl, hq⟩ | ⟨⟨rfl, hq⟩, rfl, hq2⟩ | ⟨rfl, rfl, hq2⟩ | hgood
  · have HQ : Hid (¬ (AllLt ll e.key ∧ AllGt lr e.key)) := fun h => by have := (HLTB.out.1 h.1) rfl; omega
    have d1 : decide (e.key ≤ KL) = true := decide_eq_true hq
    go_wp2_with fail
    go_ret2
    obtain ⟨F', hal, hI⟩ := HEND.out
    exact ⟨F', A, rd2, hal, hI, HBAD.out HQ.out rd2 HRB.out.1 HRB.out.2⟩
  · have HQ : Hid (¬ (AllLt ll e.key ∧ AllGt lr e.key)) := fun h => by have := (HGTB.out.1 h.2) rfl; omega
    have d1 : decide (e.key ≤ KL) = false := decide_eq_false (by omega)
    have d2 : decide (KG ≤ e.key) = true := decide_eq_true hq2
    have d3 : ¬ e.key ≤ KL := by omega
    go_wp2_with fail
    go_ret2
    obtain ⟨F', hal, hI⟩ := HEND.out
    exact ⟨F', A, rd2, hal, hI, HBAD.out HQ.out rd2 HRB.out.1 HRB.out.2⟩
  · have HQ : Hid (¬ (AllLt ll e.key ∧ AllGt lr e.key)) := fun h => by have := (HGTB.out.1 h.2) rfl; omega
    have d2 : decide (KG ≤ e.key) = true := decide_eq_true hq2
    go_wp2_with fail
    go_ret2
    obtain ⟨F', hal, hI⟩ := HEND.out
    exact ⟨F', A, rd2, hal, hI, HBAD.out HQ.out rd2 HRB.out.1 HRB.out.2⟩
  have HOK : Hid (AllLt ll e.key ∧ AllGt lr e.key) := by
    refine ⟨HLTB.out.2 fun h => ?_, HGTB.out.2 fun h => ?_⟩
    · rcases hgood with ⟨⟨q1, q2⟩, q3⟩ | ⟨⟨q1, q2⟩, q3⟩ | ⟨q1, q3⟩ | ⟨q1, q3⟩
      · exact q2
      · exact q2
      · rw [q1] at h; cases h
      · rw [q1] at h; cases h
    · rcases hgood with ⟨q3, q1, q2⟩ | ⟨q3, q1⟩ | ⟨q3, q1, q2⟩ | ⟨q3, q1⟩
      · exact q2
      · rw [q1] at h; cases h
      · exact q2
      · rw [q1] at h; cases h
  have HGL : Hid (ll.length + lr.length + 1 ≤ 2147483647) := by have := HN.out; show _ ≤ _; omega
  clear HBAD HLTB HGTB HEND
  rcases hgood with ⟨⟨rfl, hq⟩, rfl, hq2⟩ | ⟨⟨rfl, hq⟩, rfl⟩ | ⟨rfl, rfl, hq2⟩ | ⟨rfl, rfl⟩
  case' inl => have d1 : decide (e.key ≤ KL) = false := decide_eq_false (by omega)
  case' inl => have d3 : ¬ e.key ≤ KL := by omega
  case' inl => have d2 : decide (KG ≤ e.key) = false := decide_eq_false (by omega)
  case' inl => have d4 : ¬ KG ≤ e.key := by omega
  case' inr.inl => have d1 : decide (e.key ≤ KL) = false := decide_eq_false (by omega)
  case' inr.inl => have d3 : ¬ e.key ≤ KL := by omega
  case' inr.inr.inl => have d2 : decide (KG ≤ e.key) = false := decide_eq_false (by omega)
  case' inr.inr.inl => have d4 : ¬ KG ≤ e.key := by omega
  all_goals
    go_wp2_with fail
    refine HS2.out.free.mono ?_
    rintro en w6 ⟨rfl, hs6⟩
    have HS6 := Lib.hid hs6
    clear hs6
    go_wp2_with fail
    refine (HS6.out.sz (by have := HRD.out; have := HR2.out; omega) (by have := HRD.out; have := HR2.out; have := HB.out; omega) HZ.out.2.2.2.2.1 HZ.out.2.2.1 HV.out.ok).mono ?_
    rintro en w7 ⟨rfl, hs7⟩
    rw [HZ.out.1]
    have HS7 := Lib.hid hs7
    clear hs7
    go_wp2_with fail
    refine (HS7.out.sz (by have := HRD.out; have := HR2.out; (repeat' split) <;> omega) (by have := HRD.out; have := HR2.out; have := HB.out; (repeat' split) <;> omega) HZ.out.2.2.2.2.2 HZ.out.2.2.2.1 HV.out.ok).mono ?_
    rintro en w8 ⟨rfl, hs8⟩
    rw [HZ.out.2.1]
    obtain ⟨rd3, hrd3⟩ : ∃ r, (rd2 + if L = 0 then 0 else 1) + (if R = 0 then 0 else 1) = r := ⟨_, rfl⟩
    have HR3 : Hid (rd ≤ rd3 ∧ rd3 ≤ rd + mostI ll.length + mostI lr.length + 2) := by
      have := HR2.out
      show rd ≤ rd3 ∧ rd3 ≤ rd + mostI ll.length + mostI lr.length + 2
      rw [← hrd3]
      (repeat' split) <;> omega
    rw [hrd3] at hs8
    have HS8 := Lib.hid hs8
    clear hs8 hrd3
    go_wp2_with fail
    refine (rsJoin_any (ll.length : Int) (lr.length : Int) w8 (by have := HN.out; unfold in64; omega) (by have := HN.out; unfold in64; omega)).mono ?_
    rintro en w9 ⟨rfl, hb9⟩
    have HS9 := Lib.hid (HS8.out.calm hb9)
    clear hb9
    by_cases hfr : (A.σ.free.length : Int) < joinI (ll.length : Int) (lr.length : Int)
    · have d9 : decide ((A.σ.free.length : Int) < joinI (ll.length : Int) (lr.length : Int)) = true := decide_eq_true hfr
      have HQ : Hid (JoinQ A rd held L R ll lr e (.returned (.tuple #[.int .u32 0, .int .i64 2])) A rd3) := ⟨HR3.out.1, by have := HR3.out; have := HB.out; omega, .inr (.inl ⟨HOK.out, hfr, rfl, rfl⟩)⟩
      have HE := Lib.hid HS9.out.ends
      go_wp2_with fail
      go_ret2
      obtain ⟨F', hal, hI⟩ := HE.out
      exact ⟨F', A, rd3, hal, hI, HQ.out⟩
    have d9 : decide ((A.σ.free.length : Int) < joinI (ll.length : Int) (lr.length : Int)) = false := decide_eq_false hfr
    have HFR : Hid (joinI (ll.length : Int) (lr.length : Int) ≤ (A.σ.free.length : Int)) := by show _ ≤ _; omega
    obtain ⟨v0, v1⟩ := two_ofE (HS9.out.boxes (ge, Obj.cells #[Value.int .i64 e.key, .int .i64 e.val] 31 (0, 0)) (by simp)).2
    go_wp2_with fail
    refine (HS9.out.mut fun F1 hI1 => link_all I (rotImpl I) numJ _ e w9 ⟨hI1, HV.out, HL.out.agg, fun j => Nat.le_trans (HM.out j) (by decide), HL.out.at_, HR.out.at_, HW.out.1, HW.out.2.1, HW.out.2.2, HGL.out, by have := HRD.out; have := HR3.out; omega, by have := HRD.out; have := HR3.out; have := HB.out; omega, by have := HFR.out; have := HB.out; have := HJ.out; omega⟩ (Nat.lt_succ_self _)).mono ?_
    rintro en w10 ⟨B, rd10, ⟨q0, q1, j, t, rfl, q2, q3, q4, q5⟩, hs10⟩
    have HQ : Hid (JoinQ A rd held L R ll lr e (.returned (.tuple #[.int .u32 (j : Int), .int .i64 0])) B rd10) :=
      ⟨by have := HR3.out; omega, by have := HR3.out; have := HB.out; omega, .inr (.inr ⟨HOK.out, HFR.out, j, t, rfl, q2.got q3, fun hb => q5 (bal_wb hb)⟩)⟩
    have HE := Lib.hid hs10.ends
    clear q0 q1 q2 q3 q4 q5 hs10
    go_wp2_with fail
    go_ret2
    obtain ⟨F', hal, hI⟩ := HE.out
    exact ⟨F', B, rd10, hal, hI, HQ.out⟩
theorem whole_lo {l : List En} (hu : Up l) {f : En} {k : Int} (hf : l.head? = some f) (h : k < f.key) : getE l k = none ∧ lowE l k = [] ∧ highE l k = l := by
  have hg : AllGt l k := (allGtJ hu k).2 fun x hx => by rw [hf] at hx; cases hx; exact h
  refine ⟨getE_none fun x hx => by have := hg x hx; omega, ?_, ?_⟩
  · unfold lowE; exact fil0 fun x hx => by have := hg x hx; simp; omega
  · unfold highE; exact fil1 fun x hx => by have := hg x hx; simp; omega
theorem whole_hi {l : List En} (hu : Up l) {g : En} {k : Int} (hg : l.getLast? = some g) (h : g.key < k) : getE l k = none ∧ lowE l k = l ∧ highE l k = [] := by
  have hl : AllLt l k := (allLtJ hu k).2 fun x hx => by rw [hg] at hx; cases hx; exact h
  refine ⟨getE_none fun x hx => by have := hl x hx; omega, ?_, ?_⟩
  · unfold lowE; exact fil1 fun x hx => by have := hl x hx; simp; omega
  · unfold highE; exact fil0 fun x hx => by have := hl x hx; simp; omega
theorem not_whole {l : List En} {f g : En} {k : Int} (hf : l.head? = some f) (hg : l.getLast? = some g) (h1 : f.key ≤ k) (h2 : k ≤ g.key) : ¬ wholeE l k := by
  rintro ⟨hn, h⟩
  have mf := List.mem_of_mem_head? hf
  have mg := List.mem_of_getLast? hg
  have hne : ∀ x ∈ l, x.key ≠ k := fun x hx e => by
    have := List.find?_eq_none.1 hn x hx
    simp [e] at this
  have n1 := hne f mf
  have n2 := hne g mg
  rcases h with h | h
  · have : f ∈ lowE l k := List.mem_filter.2 ⟨mf, by simp; omega⟩
    rw [h] at this
    cases this
  · have : g ∈ highE l k := List.mem_filter.2 ⟨mg, by simp; omega⟩
    rw [h] at this
    cases this
set_option maxHeartbeats 32000000 in
set_option maxRecDepth 100000 in
theorem splitP_any (I : AImpl) {p : Value} {A : Ar} {rd : Int} {F : Nat → Prop} {held : Nat → Nat} {i : Nat} {t : Tr} {l : List En} (k : Int) (w : World) (hI : I.Is w p A rd F) (hv : A.Inv [] held) (hm : ∀ j, held j ≤ 1048000) (hT : TreeAt A i t l) (hw : WfL l) (h0 : 0 ≤ rd) (h1 : rd ≤ 1099511000000) (hk : i64R k) :
    Calls Try.prog 8 #[p, .int .u32 (i : Int), .int .i64 k] w (Mut I p F (SplitQ A rd held i l k) w) := by
  obtain ⟨pa, rfl⟩ := I.ptr hI
  have HS0 := Lib.hid (Ins.start hI)
  have HV := Lib.hid hv
  have HM := Lib.hid hm
  have HT := Lib.hid hT
  have HW : Hid (WfL l ∧ i64R k) := ⟨hw, hk⟩
  have HRD : Hid (0 ≤ rd ∧ rd ≤ 1099511000000) := ⟨h0, h1⟩
  have hn := hT.few
  have HN : Hid (l.length ≤ 65536) := hn
  have HB : Hid (2 * mostI l.length + 1 + 45 * (xh l.length : Int) ≤ splitBd l.length ∧ 0 ≤ mostI l.length ∧ mostI l.length ≤ 1000 ∧ (xh l.length : Int) ≤ 100 ∧ splitI (l.length : Int) = 12 * ((xh l.length : Int) + 2) ∧ t.ht ≤ xh l.length ∧ xh (lowE l k).length ≤ xh l.length ∧ xh (highE l k).length ≤ xh l.length) := by
    have h2 := (xh_spec (n := l.length) (by omega)).2.1
    refine ⟨?_, ?_, ?_, by omega, splitJ hn, hT.ht (by omega), xh_up (low_len l k) (by omega), xh_up (high_len l k) (by omega)⟩ <;> (try unfold splitBd) <;> (try unfold mostI) <;> omega
  have HZ : Hid (A.sz i = (l.length : Int) ∧ A.Idx i ∧ i < 4294967296 ∧ A.cnt i < 4611686018427387904) := ⟨hT.at_.sz hT.agg, hT.idx', hT.idx, cnt_few hv (fun j => Nat.le_trans (hm j) (by decide)) i⟩
  obtain ⟨ol, hol⟩ : ∃ o, l.getLast? = o := ⟨_, rfl⟩
  obtain ⟨og, hog⟩ : ∃ o, l.head? = o := ⟨_, rfl⟩
  have HOL := Lib.hid hol
  have HOG := Lib.hid hog
  clear hI hv hm hT hw h0 h1 hk hn hol hog
  go_enter Try.func8, Try.ntmps8
  go_wp2_with fail
  refine (HS0.out.call fun F1 hI1 => (lkImpl I).first w hI1 HT.out HRD.out.1 (by have := HRD.out; omega) (fun y hy => (HW.out.1 y hy).1)).mono ?_
  rintro en w2 ⟨rfl, rd1, hs, r1, r2⟩
  rw [HOG.out]
  have HR1 : Hid (rd ≤ rd1 ∧ rd1 ≤ rd + mostI l.length) := ⟨r1, r2⟩
  unfold enR enA
  have hs1 := hs.box #[Value.int .i64 (og.elim 0 (·.key)), .int .i64 (og.elim 0 (·.val))] 31
  clear hs HS0 r1 r2
  go_upto_region 2 with fail
  generalize w2.alloc (Obj.cells #[Value.int .i64 (og.elim 0 (·.key)), .int .i64 (og.elim 0 (·.val))] 31) = w3 at hs1 ⊢
  generalize w2.heap.size = ga at hs1 ⊢
  have HS1 := Lib.hid hs1
  clear hs1
  go_wp2_with fail
  refine (HS1.out.call fun F1 hI1 => (lkImpl I).last w3 hI1 HT.out (by have := HRD.out; have := HR1.out; omega) (by have := HRD.out; have := HR1.out; have := HB.out; omega) (fun y hy => (HW.out.1 y hy).1)).mono ?_
  rintro en w4 ⟨rfl, rd2, hs, r1, r2⟩
  rw [HOL.out]
  have HR2 : Hid (rd ≤ rd2 ∧ rd2 ≤ rd + 2 * mostI l.length) := ⟨by have := HR1.out; omega, by have := HR1.out; omega⟩
  have hs2 := hs.box #[Value.int .i64 (ol.elim 0 (·.key)), .int .i64 (ol.elim 0 (·.val))] 31
  clear hs HS1 r1 r2
  unfold enR enA
  go_upto_region 3 with fail
  generalize w4.alloc (Obj.cells #[Value.int .i64 (ol.elim 0 (·.key)), .int .i64 (ol.elim 0 (·.val))] 31) = w5 at hs2 ⊢
  generalize w4.heap.size = gb at hs2 ⊢
  have HS2 := Lib.hid hs2
  clear hs2
  cases og with
  | none =>
    have hl : l = [] := List.head?_eq_none_iff.1 HOG.out
    have HQ : Hid (SplitQ A rd held i l k (.returned (.tuple #[.int .u32 0, .int .i64 0, .bool false, .int .u32 0, .int .i64 0])) A rd2) := by
      subst hl
      obtain ⟨m1, m2, m3⟩ := (Mid.start HV.out HT.out.agg).two (x := 0) (y := 0) (.inl rfl) (.inl rfl)
      have e : A.ret 0 = A := if_pos rfl
      rw [e, e] at m1
      refine ⟨HR2.out.1, by have := HR2.out; have := HB.out; omega, .inl ⟨⟨rfl, .inl rfl⟩, 0, 0, .nil, .nil, rfl, m1.got2 (.nil A) (.nil A), fun h => absurd rfl h, fun h => absurd rfl h, rfl⟩⟩
    have HE := Lib.hid HS2.out.ends
    clear hl
    simp only [Option.isSome_none]
    go_wp2_with fail
    refine bodyPost_ret (results_tmp5 rfl _ _ _) rfl ?_
    obtain ⟨F', hal, hI⟩ := HE.out
    exact ⟨F', A, rd2, hal, hI, HQ.out⟩
  | some f =>
  obtain ⟨g, rfl⟩ : ∃ g, ol = some g := by
    cases ol with
    | some g => exact ⟨g, rfl⟩
    | none =>
      have h1 : l = [] := List.getLast?_eq_none_iff.1 HOL.out
      have h2 := HOG.out
      rw [h1] at h2
      cases h2
  simp only [Option.isSome_some]
  obtain ⟨y0, y1⟩ := two_ofE (HS2.out.boxes (ga, Obj.cells #[Value.int .i64 f.key, .int .i64 f.val] 31 (0, 0)) (by simp)).2
  obtain ⟨z0, z1⟩ := two_ofE (HS2.out.boxes (gb, Obj.cells #[Value.int .i64 g.key, .int .i64 g.val] 31 (0, 0)) (by simp)).2
  by_cases hc1 : k < f.key
  · have d1 : decide (k < f.key) = true := decide_eq_true hc1
    have hwl := whole_lo HT.out.up HOG.out hc1
    have HQ : Hid (SplitQ A rd held i l k (.returned (.tuple #[.int .u32 0, .int .i64 0, .bool false, .int .u32 (i : Int), .int .i64 0])) (A.ret i) rd2) := by
      obtain ⟨m1, m2, m3⟩ := (Mid.start HV.out HT.out.agg).two (x := 0) (y := i) (.inl rfl) HZ.out.2.1
      have e : A.ret 0 = A := if_pos rfl
      rw [e] at m1 m2 m3
      refine ⟨HR2.out.1, by have := HR2.out; have := HB.out; omega, .inl ⟨⟨hwl.1, .inl hwl.2.1⟩, 0, i, .nil, t, rfl, ?_, fun h => absurd hwl.2.1 h, fun _ => rfl, by rw [m3]⟩⟩
      rw [hwl.2.1, hwl.2.2]
      exact m1.got2 (.nil _) (HT.out.at_.kept m2)
    clear hwl
    go_wp2_with fail
    refine (HS2.out.retain HZ.out.2.2.1 HZ.out.2.1 HZ.out.2.2.2).mono ?_
    rintro en w6 ⟨rfl, hs6⟩
    have HE := Lib.hid hs6.ends
    clear hs6 HS2 y0 y1 z0 z1
    go_wp2_with fail
    refine bodyPost_ret (results_tmp5 rfl _ _ _) rfl ?_
    obtain ⟨F', hal, hI⟩ := HE.out
    exact ⟨F', A.ret i, rd2, hal, hI, HQ.out⟩
  have d1 : decide (k < f.key) = false := decide_eq_false hc1
  by_cases hc2 : g.key < k
  · have d2 : decide (g.key < k) = true := decide_eq_true hc2
    have hwl := whole_hi HT.out.up HOL.out hc2
    have HQ : Hid (SplitQ A rd held i l k (.returned (.tuple #[.int .u32 (i : Int), .int .i64 0, .bool false, .int .u32 0, .int .i64 0])) (A.ret i) rd2) := by
      obtain ⟨m1, m2, m3⟩ := (Mid.start HV.out HT.out.agg).two (x := i) (y := 0) HZ.out.2.1 (.inl rfl)
      have e : (A.ret i).ret 0 = A.ret i := if_pos rfl
      rw [e] at m1 m2 m3
      refine ⟨HR2.out.1, by have := HR2.out; have := HB.out; omega, .inl ⟨⟨hwl.1, .inr hwl.2.2⟩, i, 0, t, .nil, rfl, ?_, fun _ => rfl, fun h => absurd hwl.2.2 h, by rw [m3]⟩⟩
      rw [hwl.2.1, hwl.2.2]
      exact m1.got2 (HT.out.at_.kept m2) (.nil _)
    clear hwl
    go_wp2_with fail
    refine (HS2.out.retain HZ.out.2.2.1 HZ.out.2.1 HZ.out.2.2.2).mono ?_
    rintro en w6 ⟨rfl, hs6⟩
    have HE := Lib.hid hs6.ends
    clear hs6 HS2 y0 y1 z0 z1
    go_wp2_with fail
    refine bodyPost_ret (results_tmp5 rfl _ _ _) rfl ?_
    obtain ⟨F', hal, hI⟩ := HE.out
    exact ⟨F', A.ret i, rd2, hal, hI, HQ.out⟩
  have d2 : decide (g.key < k) = false := decide_eq_false hc2
  have HNW : Hid (¬ wholeE l k) := not_whole HOG.out HOL.out (by omega) (by omega)
  go_wp2_with fail
  refine HS2.out.free.mono ?_
  rintro en w6 ⟨rfl, hs6⟩
  have HS6 := Lib.hid hs6
  clear hs6 HS2 y0 y1 z0 z1
  go_wp2_with fail
  refine (HS6.out.sz (by have := HRD.out; have := HR2.out; omega) (by have := HRD.out; have := HR2.out; have := HB.out; omega) HZ.out.2.2.1 HZ.out.2.1 HV.out.ok).mono ?_
  rintro en w7 ⟨rfl, hs7⟩
  rw [HZ.out.1]
  obtain ⟨rd3, hrd3⟩ : ∃ r, (rd2 + if i = 0 then 0 else 1) = r := ⟨_, rfl⟩
  have HR3 : Hid (rd ≤ rd3 ∧ rd3 ≤ rd + 2 * mostI l.length + 1) := by
    have := HR2.out
    show rd ≤ rd3 ∧ rd3 ≤ rd + 2 * mostI l.length + 1
    rw [← hrd3]
    split <;> omega
  rw [hrd3] at hs7
  have HS7 := Lib.hid hs7
  clear hs7 HS6 hrd3
  go_wp2_with fail
  refine (rsSplit_any (l.length : Int) w7 (by have := HN.out; unfold in64; omega)).mono ?_
  rintro en w8 ⟨rfl, hb8⟩
  have HS8 := Lib.hid (HS7.out.calm hb8)
  clear hb8 HS7
  by_cases hfr : (A.σ.free.length : Int) < splitI (l.length : Int)
  · have d9 : decide ((A.σ.free.length : Int) < splitI (l.length : Int)) = true := decide_eq_true hfr
    have HQ : Hid (SplitQ A rd held i l k (.returned (.tuple #[.int .u32 0, .int .i64 0, .bool false, .int .u32 0, .int .i64 2])) A rd3) := ⟨HR3.out.1, by have := HR3.out; have := HB.out; omega, .inr (.inl ⟨HNW.out, hfr, rfl, rfl⟩)⟩
    have HE := Lib.hid HS8.out.ends
    go_wp2_with fail
    refine bodyPost_ret (results_tmp5 rfl _ _ _) rfl ?_
    obtain ⟨F', hal, hI⟩ := HE.out
    exact ⟨F', A, rd3, hal, hI, HQ.out⟩
  have d9 : decide ((A.σ.free.length : Int) < splitI (l.length : Int)) = false := decide_eq_false hfr
  have HFR : Hid (splitI (l.length : Int) ≤ (A.σ.free.length : Int)) := by show _ ≤ _; omega
  go_wp2_with fail
  refine (HS8.out.mut fun F1 hI1 => cut_all I (rotImpl I) numJ t w8 ⟨hI1, HV.out, HT.out.agg, fun j => Nat.le_trans (HM.out j) (by decide), HT.out.at_, HT.out.up, HW.out.1, HW.out.2, by have := HN.out; omega, by have := HRD.out; have := HR3.out; omega, by have := HRD.out; have := HR3.out; have := HB.out; omega, by have := HFR.out; have := HB.out; omega⟩).mono ?_
  rintro en w10 ⟨B, rd10, ⟨q0, s, q1, q2, x, y, tx, ty, rfl, q3, q4, q5, q6⟩, hs10⟩
  obtain ⟨V, hV⟩ : ∃ V, (getE l k).elim (0 : Int) (·.val) = V := ⟨_, rfl⟩
  obtain ⟨D, hD⟩ : ∃ D, (getE l k).isSome = D := ⟨_, rfl⟩
  rw [hV, hD]
  have HQ : Hid (SplitQ A rd held i l k (.returned (.tuple #[.int .u32 (x : Int), .int .i64 V, .bool D, .int .u32 (y : Int), .int .i64 0])) B rd10) :=
    ⟨by have := HR3.out; omega, by have := HR3.out; have := HB.out; omega, .inr (.inr ⟨HNW.out, HFR.out, x, y, tx, ty, by rw [hV, hD], q3.got2 q4 q5⟩)⟩
  have hs11 := hs10.box #[Value.int .u32 (x : Int), .int .i64 V, .bool D, .int .u32 (y : Int)] 55
  clear hV hD q0 q1 q2 q3 q4 q5 q6 hs10 HS8
  go_upto_region 12 with fail
  generalize w10.alloc (Obj.cells #[Value.int .u32 (x : Int), .int .i64 V, .bool D, .int .u32 (y : Int)] 55) = w11 at hs11 ⊢
  generalize w10.heap.size = gp at hs11 ⊢
  obtain ⟨⟨p0, p1, p2, p3⟩, -⟩ := cells4_of (hs11.boxes _ (List.Mem.head _)).2
  have HE : Hid (∀ n, ∃ F', Alters F F' w (w11.drewN n) ∧ I.Is (w11.drewN n) (.pointer (some pa)) B rd10 F') := fun n => (hs11.calm (below_drewN (Below.refl _ _) n)).ends
  clear hs11
  go_quiet (fail)
  go_wp2_with fail
  refine bodyPost_ret (results_tmp5 rfl _ _ _) rfl ?_
  obtain ⟨F', hal, hI⟩ := HE.out _
  exact ⟨F', B, rd10, hal, hI, HQ.out⟩
theorem joinImpl (I : AImpl) : JoinImpl I where
  join := fun e w hI hv hm hL hR hwl hwr h0 h1 hk hx => joinP_any I e w hI hv hm hL hR hwl hwr h0 h1 hk hx
  split := fun k w hI hv hm hT hw h0 h1 hk => splitP_any I k w hI hv hm hT hw h0 h1 hk
end Go.Proofs.Ytehaffcjoafkcaa
set_option linter.unusedVariables false
namespace Go.Proofs.Ytehaffcjoafkcaa
open Go.RowKit
theorem ens_in {H : Type} {enc : TypeId × Value → H} {W : World} {a : Option Addr} {n cap fuel : Nat} {z : DataW H × List MemPlace}
    (h : DataW.trod enc Try.prog W 0 (fun _ => true) true fuel 22 (Value.slice a n cap).cells.toList = some z) : n ≤ cap ∧ cap ≤ maxLen ∧ ∃ raw : List En, raw.length = n ∧ EnsAt W a raw := by
  have hf := fields_in Try.underlying22 Try.underlying31 (by kernel_rfl) (by kernel_rfl) h
  have hx : ∀ r, r < n → ∃ e : En, (∃ b off, a = some ⟨b, off, none⟩ ∧ b < W.heap.size ∧ W.cell? ⟨b, off + r * 2, none⟩ = some (.int .i64 e.key) ∧ W.cell? ⟨b, off + r * 2 + 1, none⟩ = some (.int .i64 e.val)) ∧ i64R e.key ∧ i64R e.val := by
    intro r hr
    obtain ⟨b, off, v, y, m, rfl, hlt, h1, h2⟩ := hf.2.2 r hr 0 _ rfl
    obtain ⟨b', off', v', y', m', he, _, h1', h2'⟩ := hf.2.2 r hr 1 _ rfl
    simp only [Option.some.injEq, Addr.mk.injEq, and_true] at he
    obtain ⟨rfl, rfl⟩ := he
    obtain ⟨key, hv, _, hw⟩ := DataW.trod_int Try.underlying2 h2
    obtain ⟨val, hv', _, hw'⟩ := DataW.trod_int Try.underlying2 h2'
    simp only [List.cons.injEq, and_true] at hv hv'
    subst hv hv'
    exact ⟨⟨key, val⟩, ⟨b, off, rfl, hlt, h1, h1'⟩, bounds_i64 hw, bounds_i64 hw'⟩
  clear hf
  obtain ⟨f, hff⟩ : ∃ f : Nat → En, ∀ r, r < n → (∃ b off, a = some ⟨b, off, none⟩ ∧ b < W.heap.size ∧ W.cell? ⟨b, off + r * 2, none⟩ = some (.int .i64 (f r).key) ∧ W.cell? ⟨b, off + r * 2 + 1, none⟩ = some (.int .i64 (f r).val)) ∧ i64R (f r).key ∧ i64R (f r).val := by
    classical
    refine ⟨fun r => if h : r < n then (hx r h).choose else ⟨0, 0⟩, fun r hr => ?_⟩
    simp only [dif_pos hr]
    exact (hx r hr).choose_spec
  have hg : n ≤ cap ∧ cap ≤ maxLen := ⟨(fields_in Try.underlying22 Try.underlying31 (by kernel_rfl) (by kernel_rfl) h).1, (fields_in Try.underlying22 Try.underlying31 (by kernel_rfl) (by kernel_rfl) h).2.1⟩
  refine ⟨hg.1, hg.2, (List.range n).map f, by simp, ⟨fun j e he => ?_, fun e he => ?_⟩⟩
  · rw [List.getElem?_map] at he
    obtain ⟨x, hx1, hx2⟩ := Option.map_eq_some_iff.1 he
    have hj : j < n := by have := (List.getElem?_eq_some_iff.1 hx1).1; simpa using this
    have hxj : x = j := by rw [List.getElem?_range hj] at hx1; exact (Option.some.inj hx1).symm
    subst hxj
    rw [← hx2]
    exact (hff x hj).1
  · obtain ⟨x, hx1, hx2⟩ := List.mem_map.1 he
    rw [← hx2]
    exact (hff x (List.mem_range.1 hx1)).2
end Go.Proofs.Ytehaffcjoafkcaa
set_option linter.unusedVariables false
set_option linter.unusedSimpArgs false
namespace Go.Proofs.Ytehaffcjoafkcaa
open Go.RowKit
theorem ensV_app (l m : List En) : ensV (l ++ m) = ensV l ++ ensV m := by simp [ensV]
theorem ensV_ones (l : List En) : ∀ u ∈ ensV l, u.oneCell' = true := by
  intro u hu
  obtain ⟨e, he, h⟩ := List.mem_flatMap.1 hu
  exact en_one e u h
theorem add_atE (b off j : Nat) : (⟨b, off, none⟩ : Addr).add j = ⟨b, off + j, none⟩ := by simp [Addr.add]
section
variable {Z : Nat} {w2 w w' : World} {l : List En} {v v' : Value}
theorem step_append_en {ops : Array Oper} {o : Oper} {a : Act} {K : Act → World → Prop} {Q : Exit → Act → World → Prop} {E : Prop} (hgd : o.guard = none) (s x : Operand)
    (ho : o.op = .call { callee := .builtin .append, args := #[s, x], argTypes := #[22, 22] })
    (hc : ESt Z w2 l v w) (hZ : w2.heap.size = Z) (hs : a.eval s = v) (e : En) (g : Nat) (hx : a.eval x = .slice (some ⟨g, 0, none⟩) 1 1)
    (hn : ∀ j u, (enV e)[j]? = some u → w.cell? ((⟨g, 0, none⟩ : Addr).add j) = some u) (hl : l.length ≤ 100000000)
    (h : ∀ v' w', ESt Z w2 (l ++ [e]) v' w' → w.grownBy w' v.ownBlock → K (a.put o.dst v') w') : if Region.wanted o (yielded ops a.tmps) = true then Oper.wp Try.prog o a w K Q else E := by
  have hw : Region.wanted o (yielded ops a.tmps) = true := by simp [Region.wanted, hgd]
  rw [if_pos hw]
  obtain ⟨i, ji, jz0, jz1, jz2⟩ := info_parts enInfo
  refine wp_append_own w s x 22 ho Z 31 i (.agg #[.int .i64 0, .int .i64 0]) 2 16 Try.underlying22 ji jz0 jz1 jz2 rfl (by decide) v l.length (ensV l) hs hc.row ⟨g, 0, none⟩ 1 1 (enV e) hx rfl hn (en_one e) (by unfold maxLen; omega) (by omega) (by have := hc.below.size; omega) ?_
  intro v' w' ho' hg _
  refine h v' w' ?_ hg
  obtain ⟨a', c', hv⟩ := row_val ho'
  refine ⟨⟨a', c', by rw [List.length_append]; exact hv⟩, ?_, hc.below.grown hg (by have := hc.below.size; omega) (row_from hc.row)⟩
  rw [List.length_append, ensV_snoc]
  exact ho'
end
end Go.Proofs.Ytehaffcjoafkcaa
