/- Of the proofs of JoinJoins, JoinConcatenates, JoinSplits: LkOk2, LkOk3, RsCon, ShOk1, RsOk. -/
import Derived.Test.YtehaffcjoafkcaaGreatK5
import Derived.Test.YtehaffcjoafkcaaGreatK11
import Derived.Test.YtehaffcjoafkcaaGreatK1
import Derived.Test.YtehaffcjoafkcaaGreatK2
import Derived.Test.YtehaffcjoafkcaaGreatK10
import Derived.Test.YtehaffcjoafkcaaGreatK6
import Derived.Test.YtehaffcjoafkcaaGreatK4
import Derived.Test.YtehaffcjoafkcaaGreatK3
import Derived.Test.YtehaffcjoafkcaaGreatK8
import Derived.Maps.AppendAt
import Derived.Deep.DeepCutAuto
set_option linter.unusedVariables false
set_option linter.unusedSimpArgs false
namespace Go.Proofs.YtehaffcjoafkcaaGreat
open Go.RowKit
section
variable {I : AImpl} {w wr wx : World} {F : Nat → Prop} {p : Value} {A : Ar} {rd : Int} {X : Nat → Prop}
theorem In.set2 (h : In I w F p A rd X wr) {g : Nat} (hg : X g) (hn : w.heap.size ≤ g) (x y : Value) : In I w F p A rd X ((wr.setCell ⟨g, 0, none⟩ x).setCell ⟨g, 1, none⟩ y) := by
  obtain ⟨F1, f1, f2, f3⟩ := h.mr.has
  have ho : ∀ k, k ≠ g → ((wr.setCell ⟨g, 0, none⟩ x).setCell ⟨g, 1, none⟩ y).heap[k]? = wr.heap[k]? := fun k hk => by rw [heap_setCell_other _ _ _ _ hk, heap_setCell_other _ _ _ _ hk]
  have hsz : ((wr.setCell ⟨g, 0, none⟩ x).setCell ⟨g, 1, none⟩ y).heap.size = wr.heap.size := by simp [World.setCell]
  refine ⟨⟨⟨F1, I.keep f1 fun k hk => ho k fun e => (f3 g (.inr hg)).2 (e ▸ hk), f2, fun k hk => ⟨by rw [hsz]; exact (f3 k hk).1, (f3 k hk).2⟩⟩, ?_, Nat.zero_le _⟩, fun k hk => ?_⟩
  · exact h.mr.below.trans ⟨rfl, rfl, rfl, Nat.le_of_eq hsz.symm, fun k hk => by omega⟩
  · have hne : k ≠ g := fun e => by have := hk.1; omega
    exact (ho k hne).trans (h.kp k hk)
theorem In.call {bd : Int} {v : Value} {f : FuncId} {args : Array Value} (h : In I w F p A rd X wr) (hc : ∀ F1, I.Is wr p A rd F1 → Calls Tryz.prog f args wr (ReadsTo I p A rd F1 bd v wr)) :
    Calls Tryz.prog f args wr fun e w' => e = .returned v ∧ ∃ rd', In I w F p A rd' X w' ∧ Keeps X wr w' ∧ rd ≤ rd' ∧ rd' ≤ rd + bd := by
  refine (mr_call h.mr hc).mono ?_
  rintro e w1 ⟨he, rd', h1, h2, h3, h4⟩
  exact ⟨he, rd', ⟨h1, fun k hk => (h2 k (.inl hk)).trans (h.kp k hk)⟩, fun k hk => h2 k (.inr hk), h3, h4⟩
end
/-- the result's box and the best entry's box -/
structure BB (I : AImpl) (w : World) (F : Nat → Prop) (p : Value) (A : Ar) (rd : Int) (r b : Nat) (o : Option En) (wr : World) : Prop where
  ins : In I w F p A rd (fun k => k = r ∨ k = b) wr
  hr : wr.heap[r]? = some (.cells #[.int .i64 0, .int .i64 0] 25 (0, 0))
  hb : wr.heap[b]? = some (.cells #[.int .i64 (o.elim 0 (·.key)), .int .i64 (o.elim 0 (·.val))] 25 (0, 0))
  ne : r ≠ b
  old : w.heap.size ≤ r ∧ w.heap.size ≤ b
section
variable {I : AImpl} {w wr wx : World} {F : Nat → Prop} {p : Value} {A : Ar} {rd rd' : Int} {r b : Nat} {o : Option En}
theorem BB.start (h : I.Is w p A rd F) : BB I w F p A rd w.heap.size (w.heap.size + 1) none ((w.alloc (.cells #[.int .i64 0, .int .i64 0] 25)).alloc (.cells #[.int .i64 0, .int .i64 0] 25)) := by
  have h1 := (In.start h).alloc (.cells #[.int .i64 0, .int .i64 0] 25)
  have h2 := h1.alloc (.cells #[.int .i64 0, .int .i64 0] 25)
  refine ⟨h2.less fun k hk => ?_, ?_, ?_, by omega, by omega⟩
  · rcases hk with rfl | rfl
    · exact .inl (.inr rfl)
    · exact .inr (by simp)
  · exact (h1.keeps (below_new7 _ _) _ (.inr rfl)).trans (heap_alloc_new w _)
  · have := heap_alloc_new (w.alloc (.cells #[.int .i64 0, .int .i64 0] 25)) (.cells #[.int .i64 0, .int .i64 0] 25)
    rw [World.size_alloc] at this
    exact this
theorem BB.calm (h : BB I w F p A rd r b o wr) (hb : Below wr.heap.size wr wx) : BB I w F p A rd r b o wx :=
  ⟨h.ins.calm hb, (h.ins.keeps hb r (.inl rfl)).trans h.hr, (h.ins.keeps hb b (.inr rfl)).trans h.hb, h.ne, h.old⟩
theorem BB.step (h : BB I w F p A rd r b o wr) (hi : In I w F p A rd' (fun k => k = r ∨ k = b) wx) (hk : Keeps (fun k => k = r ∨ k = b) wr wx) : BB I w F p A rd' r b o wx :=
  ⟨hi, (hk r (.inl rfl)).trans h.hr, (hk b (.inr rfl)).trans h.hb, h.ne, h.old⟩
theorem BB.put (h : BB I w F p A rd r b o wr) (e : En) : BB I w F p A rd r b (some e) ((wr.setCell ⟨b, 0, none⟩ (.int .i64 e.key)).setCell ⟨b, 1, none⟩ (.int .i64 e.val)) :=
  ⟨h.ins.set2 (.inr rfl) h.old.2 _ _, by rw [heap_setCell_other _ _ _ _ h.ne, heap_setCell_other _ _ _ _ h.ne]; exact h.hr, by rw [heap_setCell_same _ b 1 _ _ _ (heap_setCell_same wr b 0 _ _ _ h.hb)]; rfl, h.ne, h.old⟩
theorem BB.ends {rd0 bd : Int} (h : BB I w F p A rd r b o wr) (h0 : rd0 ≤ rd) (h1 : rd ≤ rd0 + bd) :
    ReadsTo I p A rd0 F bd (enR o) w (.returned (.tuple #[.agg #[.int .i64 (o.elim 0 (·.key)), .int .i64 (o.elim 0 (·.val))], .bool o.isSome])) ((wr.setCell ⟨r, 0, none⟩ (.int .i64 (o.elim 0 (·.key)))).setCell ⟨r, 1, none⟩ (.int .i64 (o.elim 0 (·.val)))) ∧
    ((wr.setCell ⟨r, 0, none⟩ (.int .i64 (o.elim 0 (·.key)))).setCell ⟨r, 1, none⟩ (.int .i64 (o.elim 0 (·.val)))).heap[r]? = some (.cells #[.int .i64 (o.elim 0 (·.key)), .int .i64 (o.elim 0 (·.val))] 25 (0, 0)) :=
  ⟨(h.ins.set2 (.inl rfl) h.old.1 _ _).ends h0 h1, by rw [heap_setCell_same _ r 1 _ _ _ (heap_setCell_same wr r 0 _ _ _ h.hr)]; rfl⟩
end
set_option maxRecDepth 100000 in
theorem entry_any (x : Nd) (w : World) : Calls Tryz.prog 105 #[.agg (ndRow x)] w (Calm w (.agg #[.int .i64 x.key, .int .i64 x.val])) := by
  have hin : (Tryz.prog.info? 25).map (·.size) = some 2 := by kernel_rfl
  have HINF := Lib.hid hin
  have HU : Hid _ := Lib.hid Tryz.underlying25
  have hb := below_new7 w (Obj.cells (ndRow x) 49)
  have hbx := heap_alloc_new w (Obj.cells (ndRow x) 49)
  clear hin
  go_enter Tryz.func105, Tryz.ntmps105
  unfold ndRow
  go_upto_region 1 with fail
  rw [show #[Value.int .i64 x.key, .int .i64 x.val, .int .u32 (x.left : Int), .int .u32 (x.right : Int), .int .i64 x.size, .int .i64 x.sum, .int .i64 x.mn, .int .i64 x.mx] = ndRow x from rfl]
  have hsz : w.heap.size < (w.alloc (Obj.cells (ndRow x) 49)).heap.size := by simp
  have hs1 : (w.alloc (Obj.cells (ndRow x) 49)).heap.size = w.heap.size + 1 := World.size_alloc _ _
  generalize w.alloc (Obj.cells (ndRow x) 49) = w2 at hb hbx hsz hs1 ⊢
  generalize hg : w.heap.size = g at hb hbx hsz hs1 ⊢
  have hb3 := below_new7 w2 (Obj.cells #[.int .i64 0, .int .i64 0] 25)
  have hr3 := heap_alloc_new w2 (Obj.cells #[.int .i64 0, .int .i64 0] 25)
  have hx3 := (hb3.block g hsz).trans hbx
  have hb4 := hb.trans (hb3.mono (Nat.le_of_lt hsz))
  (try rw [World.size_alloc])
  generalize w2.alloc (Obj.cells #[.int .i64 0, .int .i64 0] 25) = w3 at hr3 hx3 hb4 ⊢
  clear hb3
  (try rw [hg])
  rw [hs1] at hr3
  generalize hq : g + 1 = q at hr3 ⊢
  have x0 : w3.cell? ⟨g, 0, none⟩ = some (.int .i64 x.key) := by rw [cell_of_row _ _ _ _ _ _ hx3]; rfl
  have x1 : w3.cell? ⟨g, 1, none⟩ = some (.int .i64 x.val) := by rw [cell_of_row _ _ _ _ _ _ hx3]; rfl
  obtain ⟨r0, r1⟩ := two_ofE hr3
  have f0 := frozen_of_row _ _ 0 _ _ hr3
  have f1 := frozen_of_row _ _ 1 _ _ hr3
  have hgq : g ≠ q := by omega
  have HFIN : Hid (Below g w ((w3.setCell ⟨q, 0, none⟩ (.int .i64 x.key)).setCell ⟨q, 1, none⟩ (.int .i64 x.val)) ∧ ((w3.setCell ⟨q, 0, none⟩ (.int .i64 x.key)).setCell ⟨q, 1, none⟩ (.int .i64 x.val)).heap[q]? = some (.cells #[.int .i64 x.key, .int .i64 x.val] 25 (0, 0))) :=
    ⟨(hb4.setCell (by show g ≤ q; omega) _).setCell (by show g ≤ q; omega) _, by rw [heap_setCell_same _ q 1 _ _ _ (heap_setCell_same w3 q 0 _ _ _ hr3)]; rfl⟩
  have HGG := Lib.hid hg
  clear hb hbx hsz hs1 hr3 hx3 hb4 hg hq
  go_wp2_with fail
  refine bodyPost_ret (results_cell_row rfl _ _ q 25 #[.int .i64 x.key, .int .i64 x.val] (0, 0) _ rfl HFIN.out.2 HU.out rfl HINF.out) rfl ?_
  exact ⟨rfl, by rw [HGG.out]; exact HFIN.out.1⟩
def Waybefore (I : AImpl) (w : World) (F : Nat → Prop) (p : Value) (A : Ar) (rd0 : Int) (k : Int) (eq : Bool) (R : Option En) (top : Int) (r b U : Nat) (fd x c : Value) (wr : World) : Prop :=
  ∃ (i n : Nat) (u : Tr) (rd : Int) (o : Option En), fd = .bool o.isSome ∧ x = .int .u32 (i : Int) ∧ c = .int .i64 (n : Int) ∧ Sub A i u ∧ bef A.nd (k + if eq then 1 else 0) u o = R ∧ rd0 ≤ rd ∧ rd + (u.ht : Int) ≤ top ∧ n + u.size ≤ U ∧ BB I w F p A rd r b o wr
set_option maxHeartbeats 4000000 in
set_option maxRecDepth 100000 in
theorem beforeP_any (I : AImpl) {p : Value} {A : Ar} {rd : Int} {F : Nat → Prop} {i : Nat} {t : Tr} {l : List En} (k : Int) (eq : Bool) (w : World) (hI : I.Is w p A rd F) (hT : TreeAt A i t l) (h0 : 0 ≤ rd) (h1 : rd ≤ 1099511627776) :
    Calls Tryz.prog 84 #[p, .int .u32 (i : Int), .int .i64 k, .bool eq] w (ReadsTo I p A rd F (mostI l.length) (enR (bef A.nd (k + if eq then 1 else 0) t none)) w) := by
  obtain ⟨pa, rfl⟩ := I.ptr hI
  have hin : (Tryz.prog.info? 25).map (·.size) = some 2 := by kernel_rfl
  have HINF := Lib.hid hin
  have HU : Hid _ := Lib.hid Tryz.underlying25
  have hb := hT.bound
  obtain ⟨R, hR⟩ : ∃ R, bef A.nd (k + if eq then 1 else 0) t none = R := ⟨_, rfl⟩
  rw [hR]
  obtain ⟨M, hM⟩ : ∃ M, mostI l.length = M := ⟨_, rfl⟩
  rw [hM] at hb ⊢
  obtain ⟨held, hv⟩ := hT.inv
  have hcap := hv.ok.cap2
  have hhd := hT.held
  obtain ⟨U, hUU⟩ : ∃ U, U + A.σ.free.length = A.σ.cap := ⟨A.σ.cap - A.σ.free.length, by omega⟩
  have HUU : Hid (U ≤ 65536 ∧ t.size ≤ U) := ⟨by omega, by omega⟩
  have HOK := Lib.hid hv.ok
  have HRD : Hid (0 ≤ rd ∧ rd ≤ 1099511627776 ∧ (t.ht : Int) ≤ M ∧ t.ht ≤ 65536) := ⟨h0, h1, hb.1, hb.2⟩
  have hbb := BB.start hI
  have HLP : Hid (∀ wx F1, I.Is wx (.pointer (some pa)) A rd F1 → Calls Tryz.prog 104 #[.pointer (some pa)] wx (Calm wx (.int .i64 (U : Int)))) := fun wx F1 h => longest_any I wx h hUU
  have HSUB := Lib.hid hT.sub
  have HRR := Lib.hid hR
  clear hI hT h0 h1 hb hR hM hv hin hcap hhd hUU
  go_enter Tryz.func84, Tryz.ntmps84
  go_upto_region 2 with fail
  generalize (w.alloc (Obj.cells #[.int .i64 0, .int .i64 0] 25)).alloc (Obj.cells #[.int .i64 0, .int .i64 0] 25) = w1 at hbb ⊢
  obtain ⟨r, hr⟩ : ∃ r, w.heap.size = r := ⟨_, rfl⟩
  rw [hr] at hbb ⊢
  generalize hb1 : r + 1 = b at hbb ⊢
  have HBB := Lib.hid hbb
  clear hbb hr hb1
  go_wp2_with fail
  obtain ⟨F1, f1, -, -⟩ := HBB.out.ins.mr.has
  refine (HLP.out w1 F1 f1).mono ?_
  rintro e w1' ⟨rfl, hb1'⟩
  have HW0 : Hid (Waybefore I w F (.pointer (some pa)) A rd k eq R (rd + (t.ht : Int)) r b U (.bool false) (.int .u32 (i : Int)) (.int .i64 0) w1') := ⟨i, 0, t, rd, none, rfl, rfl, rfl, HSUB.out, HRR.out, Int.le_refl _, Int.le_refl _, by have := HUU.out; omega, HBB.out.calm hb1'⟩
  clear f1 hb1' HBB HLP
  go_wp2_with fail
  go_loopw [11, 12, 18] (fun fd x c wr => Waybefore I w F (.pointer (some pa)) A rd k eq R (rd + (t.ht : Int)) r b U fd x c wr) (fun _ _ c _ => U - (intOf c).toNat)
  case atStart => exact HW0.out
  case round =>
    clear HW0
    obtain ⟨i, n, u, rd1, o, rfl, rfl, rfl, hu, hg, hr0, hr1, hn, hB⟩ := hrel
    rcases Nat.lt_or_ge n U with hnu | hnu
    rotate_left
    · have hnu2 : decide ((n : Int) < (U : Int)) = false := decide_eq_false (by omega)
      have hu0 : u = .nil := by
        cases u with
        | nil => rfl
        | node i l r =>
          have : (Tr.node i l r).size = l.size + r.size + 1 := rfl
          omega
      subst hu0
      have ho : o = R := hg
      subst ho
      have he := hB.ends hr0 (bd := M) (by have := HRD.out; omega)
      have hUn : ¬ n < U := Nat.not_lt.2 hnu
      clear hu hg hr0 hr1 hn hnu
      have HE := Lib.hid he
      obtain ⟨c0, c1⟩ := two_ofE hB.hb
      obtain ⟨r0, r1⟩ := two_ofE hB.hr
      have f0 := frozen_of_row _ _ 0 _ _ hB.hr
      have f1 := frozen_of_row _ _ 1 _ _ hB.hr
      have hne := hB.ne
      have hne2 : b ≠ r := fun e => hne e.symm
      obtain ⟨X, hX⟩ : ∃ X, o.elim (0 : Int) (·.key) = X := ⟨_, rfl⟩
      obtain ⟨Y, hY⟩ : ∃ Y, o.elim (0 : Int) (·.val) = Y := ⟨_, rfl⟩
      rw [hX] at c0 HE
      rw [hY] at c1 HE
      clear hB he hX hY
      go_wp2_with fail
      refine bodyPost_ret (results_row_tmp rfl _ _ r 25 #[.int .i64 X, .int .i64 Y] (0, 0) _ rfl HE.out.2 HU.out rfl HINF.out) rfl ?_
      exact HE.out.1
    have hnu2 : decide ((n : Int) < (U : Int)) = true := decide_eq_true (by omega)
    have hnu3 : (n : Int) < (U : Int) := by omega
    have hU4 : (U : Int) ≤ 65536 := by have := HUU.out.1; omega
    have hn0 : (0 : Int) ≤ (n : Int) := by omega
    cases u with
    | nil =>
      obtain rfl : i = 0 := by
        cases hu with
        | nil => rfl
      have ho : o = R := hg
      subst ho
      have HR1 : Hid (rd ≤ rd1 ∧ rd1 ≤ rd + (t.ht : Int)) := ⟨hr0, by have : (Tr.nil.ht : Nat) = 0 := rfl; omega⟩
      have HBB := Lib.hid hB
      clear hu hg hr0 hr1 hB hn
      go_wp2_with fail
      refine (HBB.out.ins.off (by have := HR1.out; have := HRD.out; omega) (by have := HR1.out; have := HRD.out; omega)).mono ?_
      rintro e w2 ⟨rfl, hin2, hk2⟩
      have hB2 := (HBB.out.step hin2 hk2).calm (below_new7 w2 (Obj.cells (ndRow Nd.zero) 49))
      clear hin2 hk2 HBB
      unfold ndRow
      go_upto_region 7 with fail
      rw [show #[Value.int .i64 Nd.zero.key, .int .i64 Nd.zero.val, .int .u32 (Nd.zero.left : Int), .int .u32 (Nd.zero.right : Int), .int .i64 Nd.zero.size, .int .i64 Nd.zero.sum, .int .i64 Nd.zero.mn, .int .i64 Nd.zero.mx] = ndRow Nd.zero from rfl]
      generalize w2.alloc (Obj.cells (ndRow Nd.zero) 49) = w3 at hB2 ⊢
      have hB := hB2
      clear hB2
      have he := hB.ends (rd0 := rd) (bd := M) HR1.out.1 (by have := HR1.out; have := HRD.out; omega)
      generalize w2.heap.size = g
      have HE := Lib.hid he
      obtain ⟨c0, c1⟩ := two_ofE hB.hb
      obtain ⟨r0, r1⟩ := two_ofE hB.hr
      have f0 := frozen_of_row _ _ 0 _ _ hB.hr
      have f1 := frozen_of_row _ _ 1 _ _ hB.hr
      have hne := hB.ne
      have hne2 : b ≠ r := fun e => hne e.symm
      obtain ⟨X, hX⟩ : ∃ X, o.elim (0 : Int) (·.key) = X := ⟨_, rfl⟩
      obtain ⟨Y, hY⟩ : ∃ Y, o.elim (0 : Int) (·.val) = Y := ⟨_, rfl⟩
      rw [hX] at c0 HE
      rw [hY] at c1 HE
      clear hB he hX hY
      go_wp2_with fail
      refine bodyPost_ret (results_row_tmp rfl _ _ r 25 #[.int .i64 X, .int .i64 Y] (0, 0) _ rfl HE.out.2 HU.out rfl HINF.out) rfl ?_
      exact HE.out.1
    | node i2 l2 r2 =>
      obtain ⟨rfl, h0, hon, hsl, hsr⟩ : i2 = i ∧ i ≠ 0 ∧ A.σ.on i = true ∧ Sub A (A.nd i).left l2 ∧ Sub A (A.nd i).right r2 := by
        cases hu with
        | node _ _ _ h1 h2 h3 h4 => exact ⟨rfl, h1, h2, h3, h4⟩
      have hi4 : i2 < 4294967296 := by have := HOK.out.on i2 hon; have := HOK.out.cap2; omega
      have hht : (Tr.node i2 l2 r2).ht = 1 + max l2.ht r2.ht := rfl
      rw [show (Tr.node i2 l2 r2).size = l2.size + r2.size + 1 from rfl] at hn
      have HNL : Hid (n + 1 + l2.size ≤ U) := by show _ ≤ _; omega
      have HNR : Hid (n + 1 + r2.size ≤ U) := by show _ ≤ _; omega
      have HSL := Lib.hid hsl
      have HSR := Lib.hid hsr
      have HON := Lib.hid hon
      have HI4 := Lib.hid hi4
      have HR1 : Hid (rd ≤ rd1 ∧ rd1 + 1 + (l2.ht : Int) ≤ rd + (t.ht : Int) ∧ rd1 + 1 + (r2.ht : Int) ≤ rd + (t.ht : Int)) := ⟨hr0, by omega, by omega⟩
      have HBB := Lib.hid hB
      unfold bef at hg
      have HG := Lib.hid hg
      clear hu hg hr0 hr1 hB h0 hon hsl hsr hi4 hht hn
      go_wp2_with fail
      refine (HBB.out.ins.node (by have := HR1.out; have := HRD.out; omega) (by have := HR1.out; have := HRD.out; omega) HI4.out HON.out).mono ?_
      rintro e w2 ⟨rfl, hin2, hk2⟩
      have HB2 := Lib.hid (HBB.out.step hin2 hk2)
      clear hin2 hk2 HBB
      unfold ndRow
      go_upto_region 7 with fail
      rw [show #[Value.int .i64 (A.nd i2).key, .int .i64 (A.nd i2).val, .int .u32 ((A.nd i2).left : Int), .int .u32 ((A.nd i2).right : Int), .int .i64 (A.nd i2).size, .int .i64 (A.nd i2).sum, .int .i64 (A.nd i2).mn, .int .i64 (A.nd i2).mx] = ndRow (A.nd i2) from rfl]
      have hB3 := HB2.out.calm (below_new7 w2 (Obj.cells (ndRow (A.nd i2)) 49))
      have hbx := heap_alloc_new w2 (Obj.cells (ndRow (A.nd i2)) 49)
      have hgb : b < w2.heap.size := HB2.out.ins.mr.lt (.inr (.inr rfl))
      have hgl : w2.heap.size < (w2.alloc (Obj.cells (ndRow (A.nd i2)) 49)).heap.size := by simp
      generalize w2.alloc (Obj.cells (ndRow (A.nd i2)) 49) = w3 at hB3 hbx hgl ⊢
      generalize w2.heap.size = g at hbx hgb hgl ⊢
      have x0 : w3.cell? ⟨g, 0, none⟩ = some (.int .i64 (A.nd i2).key) := by rw [cell_of_row _ _ _ _ _ _ hbx]; rfl
      have x1 : w3.cell? ⟨g, 1, none⟩ = some (.int .i64 (A.nd i2).val) := by rw [cell_of_row _ _ _ _ _ _ hbx]; rfl
      have x2 : w3.cell? ⟨g, 2, none⟩ = some (.int .u32 ((A.nd i2).left : Int)) := by rw [cell_of_row _ _ _ _ _ _ hbx]; rfl
      have x3 : w3.cell? ⟨g, 3, none⟩ = some (.int .u32 ((A.nd i2).right : Int)) := by rw [cell_of_row _ _ _ _ _ _ hbx]; rfl
      have x4 : w3.cell? ⟨g, 4, none⟩ = some (.int .i64 (A.nd i2).size) := by rw [cell_of_row _ _ _ _ _ _ hbx]; rfl
      have x5 : w3.cell? ⟨g, 5, none⟩ = some (.int .i64 (A.nd i2).sum) := by rw [cell_of_row _ _ _ _ _ _ hbx]; rfl
      have x6 : w3.cell? ⟨g, 6, none⟩ = some (.int .i64 (A.nd i2).mn) := by rw [cell_of_row _ _ _ _ _ _ hbx]; rfl
      have x7 : w3.cell? ⟨g, 7, none⟩ = some (.int .i64 (A.nd i2).mx) := by rw [cell_of_row _ _ _ _ _ _ hbx]; rfl
      have HX := Lib.hid hbx
      have HGL : Hid (b < g ∧ g < w3.heap.size) := ⟨hgb, hgl⟩
      have HB3 := Lib.hid hB3
      have HEN := Lib.hid (entry_any (A.nd i2) w3)
      have hg := HG.out
      clear hB3 hbx hgb hgl HB2 HG
      cases eq with
      | true =>
        rw [show k + (if true = true then 1 else 0) = k + 1 from rfl] at hg
        rcases Int.lt_trichotomy (A.nd i2).key k with h | h | h
        · have q1 : decide ((A.nd i2).key < k) = true := decide_eq_true (by omega)
          have q2 : decide ((A.nd i2).key > k) = false := decide_eq_false (by omega)
          have q3 : decide (k < (A.nd i2).key) = false := decide_eq_false (by omega)
          have q4 : ((A.nd i2).key == k) = false := by simp; omega
          rw [if_pos (by omega)] at hg
          clear h
          have HG := Lib.hid hg
          clear hg
          go_wp2_with fail
          refine HEN.out.mono ?_
          rintro e w4 ⟨rfl, hb4⟩
          have hx4 := (hb4.block g HGL.out.2).trans HX.out
          have hB4 := HB3.out.calm hb4
          clear x0 x1 x2 x3 x4 x5 x6 x7 hb4
          have x2 : w4.cell? ⟨g, 2, none⟩ = some (.int .u32 ((A.nd i2).left : Int)) := by rw [cell_of_row _ _ _ _ _ _ hx4]; rfl
          have x3 : w4.cell? ⟨g, 3, none⟩ = some (.int .u32 ((A.nd i2).right : Int)) := by rw [cell_of_row _ _ _ _ _ _ hx4]; rfl
          obtain ⟨c0, c1⟩ := two_ofE hB4.hb
          have f0 := frozen_of_row _ _ 0 _ _ hB4.hb
          have f1 := frozen_of_row _ _ 1 _ _ hB4.hb
          have hgne : g ≠ b := by have := HGL.out; omega
          have hgne2 : b ≠ g := by have := HGL.out; omega
          obtain ⟨X, hX⟩ : ∃ X, o.elim (0 : Int) (·.key) = X := ⟨_, rfl⟩
          obtain ⟨Y, hY⟩ : ∃ Y, o.elim (0 : Int) (·.val) = Y := ⟨_, rfl⟩
          rw [hX] at c0
          rw [hY] at c1
          have HE : Hid (Waybefore I w F (.pointer (some pa)) A rd k true R (rd + (t.ht : Int)) r b U (.bool true) (.int .u32 ((A.nd i2).right : Int)) (.int .i64 ((n + 1 : Nat) : Int)) ((w4.setCell ⟨b, 0, none⟩ (.int .i64 (A.nd i2).key)).setCell ⟨b, 1, none⟩ (.int .i64 (A.nd i2).val))) := ⟨_, n + 1, r2, rd1 + 1, some (ndE (A.nd i2)), rfl, rfl, rfl, HSR.out, HG.out, by have := HR1.out; omega, HR1.out.2.2, HNR.out, hB4.put (ndE (A.nd i2))⟩
          clear hx4 hB4 hX hY HX HB3 HEN HG
          go_wp2_with fail
          exact ⟨by rw [show ((n : Int) + 1) = ((n + 1 : Nat) : Int) by omega]; exact HE.out, by simp [intOf]; omega⟩
        · have q1 : decide ((A.nd i2).key < k) = false := decide_eq_false (by omega)
          have q2 : decide ((A.nd i2).key > k) = false := decide_eq_false (by omega)
          have q3 : decide (k < (A.nd i2).key) = false := decide_eq_false (by omega)
          have q4 : ((A.nd i2).key == k) = true := by simp; omega
          rw [if_pos (by omega)] at hg
          clear h
          have HG := Lib.hid hg
          clear hg
          go_wp2_with fail
          refine HEN.out.mono ?_
          rintro e w4 ⟨rfl, hb4⟩
          have hx4 := (hb4.block g HGL.out.2).trans HX.out
          have hB4 := HB3.out.calm hb4
          clear x0 x1 x2 x3 x4 x5 x6 x7 hb4
          have x2 : w4.cell? ⟨g, 2, none⟩ = some (.int .u32 ((A.nd i2).left : Int)) := by rw [cell_of_row _ _ _ _ _ _ hx4]; rfl
          have x3 : w4.cell? ⟨g, 3, none⟩ = some (.int .u32 ((A.nd i2).right : Int)) := by rw [cell_of_row _ _ _ _ _ _ hx4]; rfl
          obtain ⟨c0, c1⟩ := two_ofE hB4.hb
          have f0 := frozen_of_row _ _ 0 _ _ hB4.hb
          have f1 := frozen_of_row _ _ 1 _ _ hB4.hb
          have hgne : g ≠ b := by have := HGL.out; omega
          have hgne2 : b ≠ g := by have := HGL.out; omega
          obtain ⟨X, hX⟩ : ∃ X, o.elim (0 : Int) (·.key) = X := ⟨_, rfl⟩
          obtain ⟨Y, hY⟩ : ∃ Y, o.elim (0 : Int) (·.val) = Y := ⟨_, rfl⟩
          rw [hX] at c0
          rw [hY] at c1
          have HE : Hid (Waybefore I w F (.pointer (some pa)) A rd k true R (rd + (t.ht : Int)) r b U (.bool true) (.int .u32 ((A.nd i2).right : Int)) (.int .i64 ((n + 1 : Nat) : Int)) ((w4.setCell ⟨b, 0, none⟩ (.int .i64 (A.nd i2).key)).setCell ⟨b, 1, none⟩ (.int .i64 (A.nd i2).val))) := ⟨_, n + 1, r2, rd1 + 1, some (ndE (A.nd i2)), rfl, rfl, rfl, HSR.out, HG.out, by have := HR1.out; omega, HR1.out.2.2, HNR.out, hB4.put (ndE (A.nd i2))⟩
          clear hx4 hB4 hX hY HX HB3 HEN HG
          go_wp2_with fail
          exact ⟨by rw [show ((n : Int) + 1) = ((n + 1 : Nat) : Int) by omega]; exact HE.out, by simp [intOf]; omega⟩
        · have q1 : decide ((A.nd i2).key < k) = false := decide_eq_false (by omega)
          have q2 : decide ((A.nd i2).key > k) = true := decide_eq_true (by omega)
          have q3 : decide (k < (A.nd i2).key) = true := decide_eq_true (by omega)
          have q4 : ((A.nd i2).key == k) = false := by simp; omega
          rw [if_neg (by omega)] at hg
          clear h
          have HE : Hid (Waybefore I w F (.pointer (some pa)) A rd k true R (rd + (t.ht : Int)) r b U (.bool o.isSome) (.int .u32 ((A.nd i2).left : Int)) (.int .i64 ((n + 1 : Nat) : Int)) w3) := ⟨_, n + 1, l2, rd1 + 1, o, rfl, rfl, rfl, HSL.out, hg, by have := HR1.out; omega, HR1.out.2.1, HNL.out, HB3.out⟩
          generalize o.isSome = ob at HE ⊢
          clear hg HX HB3 HEN
          go_wp2_with fail
          exact ⟨by rw [show ((n : Int) + 1) = ((n + 1 : Nat) : Int) by omega]; exact HE.out, by simp [intOf]; omega⟩
      | false =>
        rw [show k + (if false = true then 1 else 0) = k + 0 from rfl] at hg
        rcases Int.lt_trichotomy (A.nd i2).key k with h | h | h
        · have q1 : decide ((A.nd i2).key < k) = true := decide_eq_true (by omega)
          have q2 : decide ((A.nd i2).key > k) = false := decide_eq_false (by omega)
          have q3 : decide (k < (A.nd i2).key) = false := decide_eq_false (by omega)
          have q4 : ((A.nd i2).key == k) = false := by simp; omega
          rw [if_pos (by omega)] at hg
          clear h
          have HG := Lib.hid hg
          clear hg
          go_wp2_with fail
          refine HEN.out.mono ?_
          rintro e w4 ⟨rfl, hb4⟩
          have hx4 := (hb4.block g HGL.out.2).trans HX.out
          have hB4 := HB3.out.calm hb4
          clear x0 x1 x2 x3 x4 x5 x6 x7 hb4
          have x2 : w4.cell? ⟨g, 2, none⟩ = some (.int .u32 ((A.nd i2).left : Int)) := by rw [cell_of_row _ _ _ _ _ _ hx4]; rfl
          have x3 : w4.cell? ⟨g, 3, none⟩ = some (.int .u32 ((A.nd i2).right : Int)) := by rw [cell_of_row _ _ _ _ _ _ hx4]; rfl
          obtain ⟨c0, c1⟩ := two_ofE hB4.hb
          have f0 := frozen_of_row _ _ 0 _ _ hB4.hb
          have f1 := frozen_of_row _ _ 1 _ _ hB4.hb
          have hgne : g ≠ b := by have := HGL.out; omega
          have hgne2 : b ≠ g := by have := HGL.out; omega
          obtain ⟨X, hX⟩ : ∃ X, o.elim (0 : Int) (·.key) = X := ⟨_, rfl⟩
          obtain ⟨Y, hY⟩ : ∃ Y, o.elim (0 : Int) (·.val) = Y := ⟨_, rfl⟩
          rw [hX] at c0
          rw [hY] at c1
          have HE : Hid (Waybefore I w F (.pointer (some pa)) A rd k false R (rd + (t.ht : Int)) r b U (.bool true) (.int .u32 ((A.nd i2).right : Int)) (.int .i64 ((n + 1 : Nat) : Int)) ((w4.setCell ⟨b, 0, none⟩ (.int .i64 (A.nd i2).key)).setCell ⟨b, 1, none⟩ (.int .i64 (A.nd i2).val))) := ⟨_, n + 1, r2, rd1 + 1, some (ndE (A.nd i2)), rfl, rfl, rfl, HSR.out, HG.out, by have := HR1.out; omega, HR1.out.2.2, HNR.out, hB4.put (ndE (A.nd i2))⟩
          clear hx4 hB4 hX hY HX HB3 HEN HG
          go_wp2_with fail
          exact ⟨by rw [show ((n : Int) + 1) = ((n + 1 : Nat) : Int) by omega]; exact HE.out, by simp [intOf]; omega⟩
        · have q1 : decide ((A.nd i2).key < k) = false := decide_eq_false (by omega)
          have q2 : decide ((A.nd i2).key > k) = false := decide_eq_false (by omega)
          have q3 : decide (k < (A.nd i2).key) = false := decide_eq_false (by omega)
          have q4 : ((A.nd i2).key == k) = true := by simp; omega
          rw [if_neg (by omega)] at hg
          clear h
          have HE : Hid (Waybefore I w F (.pointer (some pa)) A rd k false R (rd + (t.ht : Int)) r b U (.bool o.isSome) (.int .u32 ((A.nd i2).left : Int)) (.int .i64 ((n + 1 : Nat) : Int)) w3) := ⟨_, n + 1, l2, rd1 + 1, o, rfl, rfl, rfl, HSL.out, hg, by have := HR1.out; omega, HR1.out.2.1, HNL.out, HB3.out⟩
          generalize o.isSome = ob at HE ⊢
          clear hg HX HB3 HEN
          go_wp2_with fail
          exact ⟨by rw [show ((n : Int) + 1) = ((n + 1 : Nat) : Int) by omega]; exact HE.out, by simp [intOf]; omega⟩
        · have q1 : decide ((A.nd i2).key < k) = false := decide_eq_false (by omega)
          have q2 : decide ((A.nd i2).key > k) = true := decide_eq_true (by omega)
          have q3 : decide (k < (A.nd i2).key) = true := decide_eq_true (by omega)
          have q4 : ((A.nd i2).key == k) = false := by simp; omega
          rw [if_neg (by omega)] at hg
          clear h
          have HE : Hid (Waybefore I w F (.pointer (some pa)) A rd k false R (rd + (t.ht : Int)) r b U (.bool o.isSome) (.int .u32 ((A.nd i2).left : Int)) (.int .i64 ((n + 1 : Nat) : Int)) w3) := ⟨_, n + 1, l2, rd1 + 1, o, rfl, rfl, rfl, HSL.out, hg, by have := HR1.out; omega, HR1.out.2.1, HNL.out, HB3.out⟩
          generalize o.isSome = ob at HE ⊢
          clear hg HX HB3 HEN
          go_wp2_with fail
          exact ⟨by rw [show ((n : Int) + 1) = ((n + 1 : Nat) : Int) by omega]; exact HE.out, by simp [intOf]; omega⟩
def Wayafter (I : AImpl) (w : World) (F : Nat → Prop) (p : Value) (A : Ar) (rd0 : Int) (k : Int) (eq : Bool) (R : Option En) (top : Int) (r b U : Nat) (fd x c : Value) (wr : World) : Prop :=
  ∃ (i n : Nat) (u : Tr) (rd : Int) (o : Option En), fd = .bool o.isSome ∧ x = .int .u32 (i : Int) ∧ c = .int .i64 (n : Int) ∧ Sub A i u ∧ aft A.nd (k + if eq then 0 else 1) u o = R ∧ rd0 ≤ rd ∧ rd + (u.ht : Int) ≤ top ∧ n + u.size ≤ U ∧ BB I w F p A rd r b o wr
set_option maxHeartbeats 4000000 in
set_option maxRecDepth 100000 in
theorem afterP_any (I : AImpl) {p : Value} {A : Ar} {rd : Int} {F : Nat → Prop} {i : Nat} {t : Tr} {l : List En} (k : Int) (eq : Bool) (w : World) (hI : I.Is w p A rd F) (hT : TreeAt A i t l) (h0 : 0 ≤ rd) (h1 : rd ≤ 1099511627776) :
    Calls Tryz.prog 85 #[p, .int .u32 (i : Int), .int .i64 k, .bool eq] w (ReadsTo I p A rd F (mostI l.length) (enR (aft A.nd (k + if eq then 0 else 1) t none)) w) := by
  obtain ⟨pa, rfl⟩ := I.ptr hI
  have hin : (Tryz.prog.info? 25).map (·.size) = some 2 := by kernel_rfl
  have HINF := Lib.hid hin
  have HU : Hid _ := Lib.hid Tryz.underlying25
  have hb := hT.bound
  obtain ⟨R, hR⟩ : ∃ R, aft A.nd (k + if eq then 0 else 1) t none = R := ⟨_, rfl⟩
  rw [hR]
  obtain ⟨M, hM⟩ : ∃ M, mostI l.length = M := ⟨_, rfl⟩
  rw [hM] at hb ⊢
  obtain ⟨held, hv⟩ := hT.inv
  have hcap := hv.ok.cap2
  have hhd := hT.held
  obtain ⟨U, hUU⟩ : ∃ U, U + A.σ.free.length = A.σ.cap := ⟨A.σ.cap - A.σ.free.length, by omega⟩
  have HUU : Hid (U ≤ 65536 ∧ t.size ≤ U) := ⟨by omega, by omega⟩
  have HOK := Lib.hid hv.ok
  have HRD : Hid (0 ≤ rd ∧ rd ≤ 1099511627776 ∧ (t.ht : Int) ≤ M ∧ t.ht ≤ 65536) := ⟨h0, h1, hb.1, hb.2⟩
  have hbb := BB.start hI
  have HLP : Hid (∀ wx F1, I.Is wx (.pointer (some pa)) A rd F1 → Calls Tryz.prog 104 #[.pointer (some pa)] wx (Calm wx (.int .i64 (U : Int)))) := fun wx F1 h => longest_any I wx h hUU
  have HSUB := Lib.hid hT.sub
  have HRR := Lib.hid hR
  clear hI hT h0 h1 hb hR hM hv hin hcap hhd hUU
  go_enter Tryz.func85, Tryz.ntmps85
  go_upto_region 2 with fail
  generalize (w.alloc (Obj.cells #[.int .i64 0, .int .i64 0] 25)).alloc (Obj.cells #[.int .i64 0, .int .i64 0] 25) = w1 at hbb ⊢
  obtain ⟨r, hr⟩ : ∃ r, w.heap.size = r := ⟨_, rfl⟩
  rw [hr] at hbb ⊢
  generalize hb1 : r + 1 = b at hbb ⊢
  have HBB := Lib.hid hbb
  clear hbb hr hb1
  go_wp2_with fail
  obtain ⟨F1, f1, -, -⟩ := HBB.out.ins.mr.has
  refine (HLP.out w1 F1 f1).mono ?_
  rintro e w1' ⟨rfl, hb1'⟩
  have HW0 : Hid (Wayafter I w F (.pointer (some pa)) A rd k eq R (rd + (t.ht : Int)) r b U (.bool false) (.int .u32 (i : Int)) (.int .i64 0) w1') := ⟨i, 0, t, rd, none, rfl, rfl, rfl, HSUB.out, HRR.out, Int.le_refl _, Int.le_refl _, by have := HUU.out; omega, HBB.out.calm hb1'⟩
  clear f1 hb1' HBB HLP
  go_wp2_with fail
  go_loopw [11, 12, 18] (fun fd x c wr => Wayafter I w F (.pointer (some pa)) A rd k eq R (rd + (t.ht : Int)) r b U fd x c wr) (fun _ _ c _ => U - (intOf c).toNat)
  case atStart => exact HW0.out
  case round =>
    clear HW0
    obtain ⟨i, n, u, rd1, o, rfl, rfl, rfl, hu, hg, hr0, hr1, hn, hB⟩ := hrel
    rcases Nat.lt_or_ge n U with hnu | hnu
    rotate_left
    · have hnu2 : decide ((n : Int) < (U : Int)) = false := decide_eq_false (by omega)
      have hu0 : u = .nil := by
        cases u with
        | nil => rfl
        | node i l r =>
          have : (Tr.node i l r).size = l.size + r.size + 1 := rfl
          omega
      subst hu0
      have ho : o = R := hg
      subst ho
      have he := hB.ends hr0 (bd := M) (by have := HRD.out; omega)
      have hUn : ¬ n < U := Nat.not_lt.2 hnu
      clear hu hg hr0 hr1 hn hnu
      have HE := Lib.hid he
      obtain ⟨c0, c1⟩ := two_ofE hB.hb
      obtain ⟨r0, r1⟩ := two_ofE hB.hr
      have f0 := frozen_of_row _ _ 0 _ _ hB.hr
      have f1 := frozen_of_row _ _ 1 _ _ hB.hr
      have hne := hB.ne
      have hne2 : b ≠ r := fun e => hne e.symm
      obtain ⟨X, hX⟩ : ∃ X, o.elim (0 : Int) (·.key) = X := ⟨_, rfl⟩
      obtain ⟨Y, hY⟩ : ∃ Y, o.elim (0 : Int) (·.val) = Y := ⟨_, rfl⟩
      rw [hX] at c0 HE
      rw [hY] at c1 HE
      clear hB he hX hY
      go_wp2_with fail
      refine bodyPost_ret (results_row_tmp rfl _ _ r 25 #[.int .i64 X, .int .i64 Y] (0, 0) _ rfl HE.out.2 HU.out rfl HINF.out) rfl ?_
      exact HE.out.1
    have hnu2 : decide ((n : Int) < (U : Int)) = true := decide_eq_true (by omega)
    have hnu3 : (n : Int) < (U : Int) := by omega
    have hU4 : (U : Int) ≤ 65536 := by have := HUU.out.1; omega
    have hn0 : (0 : Int) ≤ (n : Int) := by omega
    cases u with
    | nil =>
      obtain rfl : i = 0 := by
        cases hu with
        | nil => rfl
      have ho : o = R := hg
      subst ho
      have HR1 : Hid (rd ≤ rd1 ∧ rd1 ≤ rd + (t.ht : Int)) := ⟨hr0, by have : (Tr.nil.ht : Nat) = 0 := rfl; omega⟩
      have HBB := Lib.hid hB
      clear hu hg hr0 hr1 hB hn
      go_wp2_with fail
      refine (HBB.out.ins.off (by have := HR1.out; have := HRD.out; omega) (by have := HR1.out; have := HRD.out; omega)).mono ?_
      rintro e w2 ⟨rfl, hin2, hk2⟩
      have hB2 := (HBB.out.step hin2 hk2).calm (below_new7 w2 (Obj.cells (ndRow Nd.zero) 49))
      clear hin2 hk2 HBB
      unfold ndRow
      go_upto_region 7 with fail
      rw [show #[Value.int .i64 Nd.zero.key, .int .i64 Nd.zero.val, .int .u32 (Nd.zero.left : Int), .int .u32 (Nd.zero.right : Int), .int .i64 Nd.zero.size, .int .i64 Nd.zero.sum, .int .i64 Nd.zero.mn, .int .i64 Nd.zero.mx] = ndRow Nd.zero from rfl]
      generalize w2.alloc (Obj.cells (ndRow Nd.zero) 49) = w3 at hB2 ⊢
      have hB := hB2
      clear hB2
      have he := hB.ends (rd0 := rd) (bd := M) HR1.out.1 (by have := HR1.out; have := HRD.out; omega)
      generalize w2.heap.size = g
      have HE := Lib.hid he
      obtain ⟨c0, c1⟩ := two_ofE hB.hb
      obtain ⟨r0, r1⟩ := two_ofE hB.hr
      have f0 := frozen_of_row _ _ 0 _ _ hB.hr
      have f1 := frozen_of_row _ _ 1 _ _ hB.hr
      have hne := hB.ne
      have hne2 : b ≠ r := fun e => hne e.symm
      obtain ⟨X, hX⟩ : ∃ X, o.elim (0 : Int) (·.key) = X := ⟨_, rfl⟩
      obtain ⟨Y, hY⟩ : ∃ Y, o.elim (0 : Int) (·.val) = Y := ⟨_, rfl⟩
      rw [hX] at c0 HE
      rw [hY] at c1 HE
      clear hB he hX hY
      go_wp2_with fail
      refine bodyPost_ret (results_row_tmp rfl _ _ r 25 #[.int .i64 X, .int .i64 Y] (0, 0) _ rfl HE.out.2 HU.out rfl HINF.out) rfl ?_
      exact HE.out.1
    | node i2 l2 r2 =>
      obtain ⟨rfl, h0, hon, hsl, hsr⟩ : i2 = i ∧ i ≠ 0 ∧ A.σ.on i = true ∧ Sub A (A.nd i).left l2 ∧ Sub A (A.nd i).right r2 := by
        cases hu with
        | node _ _ _ h1 h2 h3 h4 => exact ⟨rfl, h1, h2, h3, h4⟩
      have hi4 : i2 < 4294967296 := by have := HOK.out.on i2 hon; have := HOK.out.cap2; omega
      have hht : (Tr.node i2 l2 r2).ht = 1 + max l2.ht r2.ht := rfl
      rw [show (Tr.node i2 l2 r2).size = l2.size + r2.size + 1 from rfl] at hn
      have HNL : Hid (n + 1 + l2.size ≤ U) := by show _ ≤ _; omega
      have HNR : Hid (n + 1 + r2.size ≤ U) := by show _ ≤ _; omega
      have HSL := Lib.hid hsl
      have HSR := Lib.hid hsr
      have HON := Lib.hid hon
      have HI4 := Lib.hid hi4
      have HR1 : Hid (rd ≤ rd1 ∧ rd1 + 1 + (l2.ht : Int) ≤ rd + (t.ht : Int) ∧ rd1 + 1 + (r2.ht : Int) ≤ rd + (t.ht : Int)) := ⟨hr0, by omega, by omega⟩
      have HBB := Lib.hid hB
      unfold aft at hg
      have HG := Lib.hid hg
      clear hu hg hr0 hr1 hB h0 hon hsl hsr hi4 hht hn
      go_wp2_with fail
      refine (HBB.out.ins.node (by have := HR1.out; have := HRD.out; omega) (by have := HR1.out; have := HRD.out; omega) HI4.out HON.out).mono ?_
      rintro e w2 ⟨rfl, hin2, hk2⟩
      have HB2 := Lib.hid (HBB.out.step hin2 hk2)
      clear hin2 hk2 HBB
      unfold ndRow
      go_upto_region 7 with fail
      rw [show #[Value.int .i64 (A.nd i2).key, .int .i64 (A.nd i2).val, .int .u32 ((A.nd i2).left : Int), .int .u32 ((A.nd i2).right : Int), .int .i64 (A.nd i2).size, .int .i64 (A.nd i2).sum, .int .i64 (A.nd i2).mn, .int .i64 (A.nd i2).mx] = ndRow (A.nd i2) from rfl]
      have hB3 := HB2.out.calm (below_new7 w2 (Obj.cells (ndRow (A.nd i2)) 49))
      have hbx := heap_alloc_new w2 (Obj.cells (ndRow (A.nd i2)) 49)
      have hgb : b < w2.heap.size := HB2.out.ins.mr.lt (.inr (.inr rfl))
      have hgl : w2.heap.size < (w2.alloc (Obj.cells (ndRow (A.nd i2)) 49)).heap.size := by simp
      generalize w2.alloc (Obj.cells (ndRow (A.nd i2)) 49) = w3 at hB3 hbx hgl ⊢
      generalize w2.heap.size = g at hbx hgb hgl ⊢
      have x0 : w3.cell? ⟨g, 0, none⟩ = some (.int .i64 (A.nd i2).key) := by rw [cell_of_row _ _ _ _ _ _ hbx]; rfl
      have x1 : w3.cell? ⟨g, 1, none⟩ = some (.int .i64 (A.nd i2).val) := by rw [cell_of_row _ _ _ _ _ _ hbx]; rfl
      have x2 : w3.cell? ⟨g, 2, none⟩ = some (.int .u32 ((A.nd i2).left : Int)) := by rw [cell_of_row _ _ _ _ _ _ hbx]; rfl
      have x3 : w3.cell? ⟨g, 3, none⟩ = some (.int .u32 ((A.nd i2).right : Int)) := by rw [cell_of_row _ _ _ _ _ _ hbx]; rfl
      have x4 : w3.cell? ⟨g, 4, none⟩ = some (.int .i64 (A.nd i2).size) := by rw [cell_of_row _ _ _ _ _ _ hbx]; rfl
      have x5 : w3.cell? ⟨g, 5, none⟩ = some (.int .i64 (A.nd i2).sum) := by rw [cell_of_row _ _ _ _ _ _ hbx]; rfl
      have x6 : w3.cell? ⟨g, 6, none⟩ = some (.int .i64 (A.nd i2).mn) := by rw [cell_of_row _ _ _ _ _ _ hbx]; rfl
      have x7 : w3.cell? ⟨g, 7, none⟩ = some (.int .i64 (A.nd i2).mx) := by rw [cell_of_row _ _ _ _ _ _ hbx]; rfl
      have HX := Lib.hid hbx
      have HGL : Hid (b < g ∧ g < w3.heap.size) := ⟨hgb, hgl⟩
      have HB3 := Lib.hid hB3
      have HEN := Lib.hid (entry_any (A.nd i2) w3)
      have hg := HG.out
      clear hB3 hbx hgb hgl HB2 HG
      cases eq with
      | true =>
        rw [show k + (if true = true then 0 else 1) = k + 0 from rfl] at hg
        rcases Int.lt_trichotomy (A.nd i2).key k with h | h | h
        · have q1 : decide ((A.nd i2).key < k) = true := decide_eq_true (by omega)
          have q2 : decide ((A.nd i2).key > k) = false := decide_eq_false (by omega)
          have q3 : decide (k < (A.nd i2).key) = false := decide_eq_false (by omega)
          have q4 : ((A.nd i2).key == k) = false := by simp; omega
          rw [if_pos (by omega)] at hg
          clear h
          have HE : Hid (Wayafter I w F (.pointer (some pa)) A rd k true R (rd + (t.ht : Int)) r b U (.bool o.isSome) (.int .u32 ((A.nd i2).right : Int)) (.int .i64 ((n + 1 : Nat) : Int)) w3) := ⟨_, n + 1, r2, rd1 + 1, o, rfl, rfl, rfl, HSR.out, hg, by have := HR1.out; omega, HR1.out.2.2, HNR.out, HB3.out⟩
          generalize o.isSome = ob at HE ⊢
          clear hg HX HB3 HEN
          go_wp2_with fail
          exact ⟨by rw [show ((n : Int) + 1) = ((n + 1 : Nat) : Int) by omega]; exact HE.out, by simp [intOf]; omega⟩
        · have q1 : decide ((A.nd i2).key < k) = false := decide_eq_false (by omega)
          have q2 : decide ((A.nd i2).key > k) = false := decide_eq_false (by omega)
          have q3 : decide (k < (A.nd i2).key) = false := decide_eq_false (by omega)
          have q4 : ((A.nd i2).key == k) = true := by simp; omega
          rw [if_neg (by omega)] at hg
          clear h
          have HG := Lib.hid hg
          clear hg
          go_wp2_with fail
          refine HEN.out.mono ?_
          rintro e w4 ⟨rfl, hb4⟩
          have hx4 := (hb4.block g HGL.out.2).trans HX.out
          have hB4 := HB3.out.calm hb4
          clear x0 x1 x2 x3 x4 x5 x6 x7 hb4
          have x2 : w4.cell? ⟨g, 2, none⟩ = some (.int .u32 ((A.nd i2).left : Int)) := by rw [cell_of_row _ _ _ _ _ _ hx4]; rfl
          have x3 : w4.cell? ⟨g, 3, none⟩ = some (.int .u32 ((A.nd i2).right : Int)) := by rw [cell_of_row _ _ _ _ _ _ hx4]; rfl
          obtain ⟨c0, c1⟩ := two_ofE hB4.hb
          have f0 := frozen_of_row _ _ 0 _ _ hB4.hb
          have f1 := frozen_of_row _ _ 1 _ _ hB4.hb
          have hgne : g ≠ b := by have := HGL.out; omega
          have hgne2 : b ≠ g := by have := HGL.out; omega
          obtain ⟨X, hX⟩ : ∃ X, o.elim (0 : Int) (·.key) = X := ⟨_, rfl⟩
          obtain ⟨Y, hY⟩ : ∃ Y, o.elim (0 : Int) (·.val) = Y := ⟨_, rfl⟩
          rw [hX] at c0
          rw [hY] at c1
          have HE : Hid (Wayafter I w F (.pointer (some pa)) A rd k true R (rd + (t.ht : Int)) r b U (.bool true) (.int .u32 ((A.nd i2).left : Int)) (.int .i64 ((n + 1 : Nat) : Int)) ((w4.setCell ⟨b, 0, none⟩ (.int .i64 (A.nd i2).key)).setCell ⟨b, 1, none⟩ (.int .i64 (A.nd i2).val))) := ⟨_, n + 1, l2, rd1 + 1, some (ndE (A.nd i2)), rfl, rfl, rfl, HSL.out, HG.out, by have := HR1.out; omega, HR1.out.2.1, HNL.out, hB4.put (ndE (A.nd i2))⟩
          clear hx4 hB4 hX hY HX HB3 HEN HG
          go_wp2_with fail
          exact ⟨by rw [show ((n : Int) + 1) = ((n + 1 : Nat) : Int) by omega]; exact HE.out, by simp [intOf]; omega⟩
        · have q1 : decide ((A.nd i2).key < k) = false := decide_eq_false (by omega)
          have q2 : decide ((A.nd i2).key > k) = true := decide_eq_true (by omega)
          have q3 : decide (k < (A.nd i2).key) = true := decide_eq_true (by omega)
          have q4 : ((A.nd i2).key == k) = false := by simp; omega
          rw [if_neg (by omega)] at hg
          clear h
          have HG := Lib.hid hg
          clear hg
          go_wp2_with fail
          refine HEN.out.mono ?_
          rintro e w4 ⟨rfl, hb4⟩
          have hx4 := (hb4.block g HGL.out.2).trans HX.out
          have hB4 := HB3.out.calm hb4
          clear x0 x1 x2 x3 x4 x5 x6 x7 hb4
          have x2 : w4.cell? ⟨g, 2, none⟩ = some (.int .u32 ((A.nd i2).left : Int)) := by rw [cell_of_row _ _ _ _ _ _ hx4]; rfl
          have x3 : w4.cell? ⟨g, 3, none⟩ = some (.int .u32 ((A.nd i2).right : Int)) := by rw [cell_of_row _ _ _ _ _ _ hx4]; rfl
          obtain ⟨c0, c1⟩ := two_ofE hB4.hb
          have f0 := frozen_of_row _ _ 0 _ _ hB4.hb
          have f1 := frozen_of_row _ _ 1 _ _ hB4.hb
          have hgne : g ≠ b := by have := HGL.out; omega
          have hgne2 : b ≠ g := by have := HGL.out; omega
          obtain ⟨X, hX⟩ : ∃ X, o.elim (0 : Int) (·.key) = X := ⟨_, rfl⟩
          obtain ⟨Y, hY⟩ : ∃ Y, o.elim (0 : Int) (·.val) = Y := ⟨_, rfl⟩
          rw [hX] at c0
          rw [hY] at c1
          have HE : Hid (Wayafter I w F (.pointer (some pa)) A rd k true R (rd + (t.ht : Int)) r b U (.bool true) (.int .u32 ((A.nd i2).left : Int)) (.int .i64 ((n + 1 : Nat) : Int)) ((w4.setCell ⟨b, 0, none⟩ (.int .i64 (A.nd i2).key)).setCell ⟨b, 1, none⟩ (.int .i64 (A.nd i2).val))) := ⟨_, n + 1, l2, rd1 + 1, some (ndE (A.nd i2)), rfl, rfl, rfl, HSL.out, HG.out, by have := HR1.out; omega, HR1.out.2.1, HNL.out, hB4.put (ndE (A.nd i2))⟩
          clear hx4 hB4 hX hY HX HB3 HEN HG
          go_wp2_with fail
          exact ⟨by rw [show ((n : Int) + 1) = ((n + 1 : Nat) : Int) by omega]; exact HE.out, by simp [intOf]; omega⟩
      | false =>
        rw [show k + (if false = true then 0 else 1) = k + 1 from rfl] at hg
        rcases Int.lt_trichotomy (A.nd i2).key k with h | h | h
        · have q1 : decide ((A.nd i2).key < k) = true := decide_eq_true (by omega)
          have q2 : decide ((A.nd i2).key > k) = false := decide_eq_false (by omega)
          have q3 : decide (k < (A.nd i2).key) = false := decide_eq_false (by omega)
          have q4 : ((A.nd i2).key == k) = false := by simp; omega
          rw [if_pos (by omega)] at hg
          clear h
          have HE : Hid (Wayafter I w F (.pointer (some pa)) A rd k false R (rd + (t.ht : Int)) r b U (.bool o.isSome) (.int .u32 ((A.nd i2).right : Int)) (.int .i64 ((n + 1 : Nat) : Int)) w3) := ⟨_, n + 1, r2, rd1 + 1, o, rfl, rfl, rfl, HSR.out, hg, by have := HR1.out; omega, HR1.out.2.2, HNR.out, HB3.out⟩
          generalize o.isSome = ob at HE ⊢
          clear hg HX HB3 HEN
          go_wp2_with fail
          exact ⟨by rw [show ((n : Int) + 1) = ((n + 1 : Nat) : Int) by omega]; exact HE.out, by simp [intOf]; omega⟩
        · have q1 : decide ((A.nd i2).key < k) = false := decide_eq_false (by omega)
          have q2 : decide ((A.nd i2).key > k) = false := decide_eq_false (by omega)
          have q3 : decide (k < (A.nd i2).key) = false := decide_eq_false (by omega)
          have q4 : ((A.nd i2).key == k) = true := by simp; omega
          rw [if_pos (by omega)] at hg
          clear h
          have HE : Hid (Wayafter I w F (.pointer (some pa)) A rd k false R (rd + (t.ht : Int)) r b U (.bool o.isSome) (.int .u32 ((A.nd i2).right : Int)) (.int .i64 ((n + 1 : Nat) : Int)) w3) := ⟨_, n + 1, r2, rd1 + 1, o, rfl, rfl, rfl, HSR.out, hg, by have := HR1.out; omega, HR1.out.2.2, HNR.out, HB3.out⟩
          generalize o.isSome = ob at HE ⊢
          clear hg HX HB3 HEN
          go_wp2_with fail
          exact ⟨by rw [show ((n : Int) + 1) = ((n + 1 : Nat) : Int) by omega]; exact HE.out, by simp [intOf]; omega⟩
        · have q1 : decide ((A.nd i2).key < k) = false := decide_eq_false (by omega)
          have q2 : decide ((A.nd i2).key > k) = true := decide_eq_true (by omega)
          have q3 : decide (k < (A.nd i2).key) = true := decide_eq_true (by omega)
          have q4 : ((A.nd i2).key == k) = false := by simp; omega
          rw [if_neg (by omega)] at hg
          clear h
          have HG := Lib.hid hg
          clear hg
          go_wp2_with fail
          refine HEN.out.mono ?_
          rintro e w4 ⟨rfl, hb4⟩
          have hx4 := (hb4.block g HGL.out.2).trans HX.out
          have hB4 := HB3.out.calm hb4
          clear x0 x1 x2 x3 x4 x5 x6 x7 hb4
          have x2 : w4.cell? ⟨g, 2, none⟩ = some (.int .u32 ((A.nd i2).left : Int)) := by rw [cell_of_row _ _ _ _ _ _ hx4]; rfl
          have x3 : w4.cell? ⟨g, 3, none⟩ = some (.int .u32 ((A.nd i2).right : Int)) := by rw [cell_of_row _ _ _ _ _ _ hx4]; rfl
          obtain ⟨c0, c1⟩ := two_ofE hB4.hb
          have f0 := frozen_of_row _ _ 0 _ _ hB4.hb
          have f1 := frozen_of_row _ _ 1 _ _ hB4.hb
          have hgne : g ≠ b := by have := HGL.out; omega
          have hgne2 : b ≠ g := by have := HGL.out; omega
          obtain ⟨X, hX⟩ : ∃ X, o.elim (0 : Int) (·.key) = X := ⟨_, rfl⟩
          obtain ⟨Y, hY⟩ : ∃ Y, o.elim (0 : Int) (·.val) = Y := ⟨_, rfl⟩
          rw [hX] at c0
          rw [hY] at c1
          have HE : Hid (Wayafter I w F (.pointer (some pa)) A rd k false R (rd + (t.ht : Int)) r b U (.bool true) (.int .u32 ((A.nd i2).left : Int)) (.int .i64 ((n + 1 : Nat) : Int)) ((w4.setCell ⟨b, 0, none⟩ (.int .i64 (A.nd i2).key)).setCell ⟨b, 1, none⟩ (.int .i64 (A.nd i2).val))) := ⟨_, n + 1, l2, rd1 + 1, some (ndE (A.nd i2)), rfl, rfl, rfl, HSL.out, HG.out, by have := HR1.out; omega, HR1.out.2.1, HNL.out, hB4.put (ndE (A.nd i2))⟩
          clear hx4 hB4 hX hY HX HB3 HEN HG
          go_wp2_with fail
          exact ⟨by rw [show ((n : Int) + 1) = ((n + 1 : Nat) : Int) by omega]; exact HE.out, by simp [intOf]; omega⟩
end Go.Proofs.YtehaffcjoafkcaaGreat
set_option linter.unusedVariables false
set_option linter.unusedSimpArgs false
namespace Go.Proofs.YtehaffcjoafkcaaGreat
open Go.RowKit
set_option maxHeartbeats 2000000 in
set_option maxRecDepth 100000 in
theorem floorP_any (I : AImpl) {p : Value} {A : Ar} {rd : Int} {F : Nat → Prop} {i : Nat} {t : Tr} {l : List En} (k : Int) (w : World) (hI : I.Is w p A rd F) (hT : TreeAt A i t l) (h0 : 0 ≤ rd) (h1 : rd ≤ 1099511627776) (hk : i64R k) :
    Calls Tryz.prog 62 #[p, .int .u32 (i : Int), .int .i64 k] w (ReadsTo I p A rd F (mostI l.length) (enR (floorE l k)) w) := by
  obtain ⟨pa, rfl⟩ := I.ptr hI
  have hin : (Tryz.prog.info? 25).map (·.size) = some 2 := by kernel_rfl
  have HINF := Lib.hid hin
  have HU : Hid _ := Lib.hid Tryz.underlying25
  have hv : bef A.nd (k + if true then 1 else 0) t none = floorE l k := by
    rw [show (k + if true then 1 else 0 : Int) = k + 1 from rfl, bef_spec A.nd _ t none (by rw [hT.ents]; exact hT.up), hT.ents, Option.or_none]
    rw [floor_below hT.up]
  have HC : Hid (∀ (wx : World) (F1 : Nat → Prop), I.Is wx (.pointer (some pa)) A rd F1 → Calls Tryz.prog 84 #[.pointer (some pa), .int .u32 (i : Int), .int .i64 k, .bool true] wx (ReadsTo I (.pointer (some pa)) A rd F1 (mostI l.length) (enR (floorE l k)) wx)) := fun wx F1 hI1 => hv ▸ beforeP_any I k true wx hI1 hT h0 h1
  have hin1 := (In.start hI).alloc (.cells #[.int .i64 0, .int .i64 0] 25)
  have hr1 := heap_alloc_new w (.cells #[.int .i64 0, .int .i64 0] 25)
  clear hI hT h0 h1 hk hv hin
  go_enter Tryz.func62, Tryz.ntmps62
  go_upto_region 1 with fail
  generalize w.alloc (Obj.cells #[.int .i64 0, .int .i64 0] 25) = w1 at hin1 hr1 ⊢
  have HIN1 := Lib.hid hin1
  have HR1 := Lib.hid hr1
  clear hin1 hr1
  go_wp2_with fail
  refine (HIN1.out.call fun F1 hI1 => HC.out w1 F1 hI1).mono ?_
  rintro e w2 ⟨rfl, rd2, hin2, hk2, h20, h21⟩
  have hr2 := (hk2 w.heap.size (.inr rfl)).trans HR1.out
  obtain ⟨r0, r1⟩ := two_ofE hr2
  have f0 := frozen_of_row _ _ 0 _ _ hr2
  have f1 := frozen_of_row _ _ 1 _ _ hr2
  obtain ⟨O, hO⟩ : ∃ O, floorE l k = O := ⟨_, rfl⟩
  rw [hO]
  have HO := Lib.hid hO
  have HE : Hid (∀ x y, ReadsTo I (.pointer (some pa)) A rd F (mostI l.length) (enR O) w (.returned (enR O)) ((w2.setCell ⟨w.heap.size, 0, none⟩ (.int .i64 x)).setCell ⟨w.heap.size, 1, none⟩ (.int .i64 y)) ∧
      ((w2.setCell ⟨w.heap.size, 0, none⟩ (.int .i64 x)).setCell ⟨w.heap.size, 1, none⟩ (.int .i64 y)).heap[w.heap.size]? = some (.cells #[.int .i64 x, .int .i64 y] 25 (0, 0))) := fun x y =>
    ⟨(hin2.set2 (g := w.heap.size) (.inr rfl) (Nat.le_refl _) (.int .i64 x) (.int .i64 y)).ends h20 h21, by rw [heap_setCell_same _ _ 1 _ _ _ (heap_setCell_same _ _ 0 _ _ _ hr2)]; rfl⟩
  unfold enR enA at HE ⊢
  obtain ⟨X, hX⟩ : ∃ X, O.elim (0 : Int) (·.key) = X := ⟨_, rfl⟩
  obtain ⟨Y, hY⟩ : ∃ Y, O.elim (0 : Int) (·.val) = Y := ⟨_, rfl⟩
  obtain ⟨Z, hZ⟩ : ∃ Z, O.isSome = Z := ⟨_, rfl⟩
  rw [hX, hY, hZ] at HE ⊢
  have HXX : Hid (enR O = .tuple #[.agg #[.int .i64 X, .int .i64 Y], .bool Z]) := by show _ = _; unfold enR enA; rw [hX, hY, hZ]
  clear hO hX hY hZ hin2 hk2 h20 h21 hr2
  go_wp2_with fail
  refine bodyPost_ret (results_row_tmp rfl _ _ w.heap.size 25 #[.int .i64 X, .int .i64 Y] (0, 0) _ rfl (HE.out X Y).2 HU.out rfl HINF.out) rfl ?_
  rw [HO.out, HXX.out]
  exact (HE.out X Y).1
set_option maxHeartbeats 2000000 in
set_option maxRecDepth 100000 in
theorem ceilingP_any (I : AImpl) {p : Value} {A : Ar} {rd : Int} {F : Nat → Prop} {i : Nat} {t : Tr} {l : List En} (k : Int) (w : World) (hI : I.Is w p A rd F) (hT : TreeAt A i t l) (h0 : 0 ≤ rd) (h1 : rd ≤ 1099511627776) (hk : i64R k) :
    Calls Tryz.prog 63 #[p, .int .u32 (i : Int), .int .i64 k] w (ReadsTo I p A rd F (mostI l.length) (enR (ceilE l k)) w) := by
  obtain ⟨pa, rfl⟩ := I.ptr hI
  have hin : (Tryz.prog.info? 25).map (·.size) = some 2 := by kernel_rfl
  have HINF := Lib.hid hin
  have HU : Hid _ := Lib.hid Tryz.underlying25
  have hv : aft A.nd (k + if true then 0 else 1) t none = ceilE l k := by
    rw [show (k + if true then 0 else 1 : Int) = k + 0 from rfl, aft_spec A.nd _ t none (by rw [hT.ents]; exact hT.up), hT.ents, Option.or_none]
    rw [Int.add_zero]
  have HC : Hid (∀ (wx : World) (F1 : Nat → Prop), I.Is wx (.pointer (some pa)) A rd F1 → Calls Tryz.prog 85 #[.pointer (some pa), .int .u32 (i : Int), .int .i64 k, .bool true] wx (ReadsTo I (.pointer (some pa)) A rd F1 (mostI l.length) (enR (ceilE l k)) wx)) := fun wx F1 hI1 => hv ▸ afterP_any I k true wx hI1 hT h0 h1
  have hin1 := (In.start hI).alloc (.cells #[.int .i64 0, .int .i64 0] 25)
  have hr1 := heap_alloc_new w (.cells #[.int .i64 0, .int .i64 0] 25)
  clear hI hT h0 h1 hk hv hin
  go_enter Tryz.func63, Tryz.ntmps63
  go_upto_region 1 with fail
  generalize w.alloc (Obj.cells #[.int .i64 0, .int .i64 0] 25) = w1 at hin1 hr1 ⊢
  have HIN1 := Lib.hid hin1
  have HR1 := Lib.hid hr1
  clear hin1 hr1
  go_wp2_with fail
  refine (HIN1.out.call fun F1 hI1 => HC.out w1 F1 hI1).mono ?_
  rintro e w2 ⟨rfl, rd2, hin2, hk2, h20, h21⟩
  have hr2 := (hk2 w.heap.size (.inr rfl)).trans HR1.out
  obtain ⟨r0, r1⟩ := two_ofE hr2
  have f0 := frozen_of_row _ _ 0 _ _ hr2
  have f1 := frozen_of_row _ _ 1 _ _ hr2
  obtain ⟨O, hO⟩ : ∃ O, ceilE l k = O := ⟨_, rfl⟩
  rw [hO]
  have HO := Lib.hid hO
  have HE : Hid (∀ x y, ReadsTo I (.pointer (some pa)) A rd F (mostI l.length) (enR O) w (.returned (enR O)) ((w2.setCell ⟨w.heap.size, 0, none⟩ (.int .i64 x)).setCell ⟨w.heap.size, 1, none⟩ (.int .i64 y)) ∧
      ((w2.setCell ⟨w.heap.size, 0, none⟩ (.int .i64 x)).setCell ⟨w.heap.size, 1, none⟩ (.int .i64 y)).heap[w.heap.size]? = some (.cells #[.int .i64 x, .int .i64 y] 25 (0, 0))) := fun x y =>
    ⟨(hin2.set2 (g := w.heap.size) (.inr rfl) (Nat.le_refl _) (.int .i64 x) (.int .i64 y)).ends h20 h21, by rw [heap_setCell_same _ _ 1 _ _ _ (heap_setCell_same _ _ 0 _ _ _ hr2)]; rfl⟩
  unfold enR enA at HE ⊢
  obtain ⟨X, hX⟩ : ∃ X, O.elim (0 : Int) (·.key) = X := ⟨_, rfl⟩
  obtain ⟨Y, hY⟩ : ∃ Y, O.elim (0 : Int) (·.val) = Y := ⟨_, rfl⟩
  obtain ⟨Z, hZ⟩ : ∃ Z, O.isSome = Z := ⟨_, rfl⟩
  rw [hX, hY, hZ] at HE ⊢
  have HXX : Hid (enR O = .tuple #[.agg #[.int .i64 X, .int .i64 Y], .bool Z]) := by show _ = _; unfold enR enA; rw [hX, hY, hZ]
  clear hO hX hY hZ hin2 hk2 h20 h21 hr2
  go_wp2_with fail
  refine bodyPost_ret (results_row_tmp rfl _ _ w.heap.size 25 #[.int .i64 X, .int .i64 Y] (0, 0) _ rfl (HE.out X Y).2 HU.out rfl HINF.out) rfl ?_
  rw [HO.out, HXX.out]
  exact (HE.out X Y).1
theorem ceil_head {l : List En} (h : ∀ e ∈ l, i64R e.key) : ceilE l (-9223372036854775808) = l.head? := by
  have h0 : rankE l (-9223372036854775808) = 0 := rankE_zero fun y hy => by have := (h y hy).1; omega
  unfold ceilE
  rw [h0, show ((0 : Nat) : Int) = ((0 : Nat) : Int) from rfl, selE_nat]
  cases l <;> rfl
theorem floor_last {l : List En} (hu : Up l) (h : ∀ e ∈ l, i64R e.key) : floorE l 9223372036854775807 = l.getLast? := by
  rw [floor_below hu]
  unfold belowE
  rw [rankE_all fun y hy => by have := (h y hy).2; omega, selE_pred]
  cases l with
  | nil => rfl
  | cons a t =>
    rw [if_neg (by simp), List.getLast?_eq_getElem?]
set_option maxHeartbeats 2000000 in
set_option maxRecDepth 100000 in
theorem firstP_any (I : AImpl) {p : Value} {A : Ar} {rd : Int} {F : Nat → Prop} {i : Nat} {t : Tr} {l : List En} (w : World) (hI : I.Is w p A rd F) (hT : TreeAt A i t l) (h0 : 0 ≤ rd) (h1 : rd ≤ 1099511627776) (hW : ∀ e ∈ l, i64R e.key) :
    Calls Tryz.prog 41 #[p, .int .u32 (i : Int)] w (ReadsTo I p A rd F (mostI l.length) (enR (l.head?)) w) := by
  obtain ⟨pa, rfl⟩ := I.ptr hI
  have hin : (Tryz.prog.info? 25).map (·.size) = some 2 := by kernel_rfl
  have HINF := Lib.hid hin
  have HU : Hid _ := Lib.hid Tryz.underlying25
  have hv : ceilE l (-9223372036854775808) = l.head? := ceil_head hW
  have HC : Hid (∀ (wx : World) (F1 : Nat → Prop), I.Is wx (.pointer (some pa)) A rd F1 → Calls Tryz.prog 63 #[.pointer (some pa), .int .u32 (i : Int), .int .i64 (-9223372036854775808)] wx (ReadsTo I (.pointer (some pa)) A rd F1 (mostI l.length) (enR (l.head?)) wx)) := fun wx F1 hI1 => hv ▸ ceilingP_any I (-9223372036854775808) wx hI1 hT h0 h1 (by unfold i64R; omega)
  have hin1 := (In.start hI).alloc (.cells #[.int .i64 0, .int .i64 0] 25)
  have hr1 := heap_alloc_new w (.cells #[.int .i64 0, .int .i64 0] 25)
  clear hI hT h0 h1 hW hv hin
  go_enter Tryz.func41, Tryz.ntmps41
  go_upto_region 1 with fail
  generalize w.alloc (Obj.cells #[.int .i64 0, .int .i64 0] 25) = w1 at hin1 hr1 ⊢
  have HIN1 := Lib.hid hin1
  have HR1 := Lib.hid hr1
  clear hin1 hr1
  go_wp2_with fail
  refine (HIN1.out.call fun F1 hI1 => HC.out w1 F1 hI1).mono ?_
  rintro e w2 ⟨rfl, rd2, hin2, hk2, h20, h21⟩
  have hr2 := (hk2 w.heap.size (.inr rfl)).trans HR1.out
  obtain ⟨r0, r1⟩ := two_ofE hr2
  have f0 := frozen_of_row _ _ 0 _ _ hr2
  have f1 := frozen_of_row _ _ 1 _ _ hr2
  obtain ⟨O, hO⟩ : ∃ O, l.head? = O := ⟨_, rfl⟩
  rw [hO]
  have HO := Lib.hid hO
  have HE : Hid (∀ x y, ReadsTo I (.pointer (some pa)) A rd F (mostI l.length) (enR O) w (.returned (enR O)) ((w2.setCell ⟨w.heap.size, 0, none⟩ (.int .i64 x)).setCell ⟨w.heap.size, 1, none⟩ (.int .i64 y)) ∧
      ((w2.setCell ⟨w.heap.size, 0, none⟩ (.int .i64 x)).setCell ⟨w.heap.size, 1, none⟩ (.int .i64 y)).heap[w.heap.size]? = some (.cells #[.int .i64 x, .int .i64 y] 25 (0, 0))) := fun x y =>
    ⟨(hin2.set2 (g := w.heap.size) (.inr rfl) (Nat.le_refl _) (.int .i64 x) (.int .i64 y)).ends h20 h21, by rw [heap_setCell_same _ _ 1 _ _ _ (heap_setCell_same _ _ 0 _ _ _ hr2)]; rfl⟩
  unfold enR enA at HE ⊢
  obtain ⟨X, hX⟩ : ∃ X, O.elim (0 : Int) (·.key) = X := ⟨_, rfl⟩
  obtain ⟨Y, hY⟩ : ∃ Y, O.elim (0 : Int) (·.val) = Y := ⟨_, rfl⟩
  obtain ⟨Z, hZ⟩ : ∃ Z, O.isSome = Z := ⟨_, rfl⟩
  rw [hX, hY, hZ] at HE ⊢
  have HXX : Hid (enR O = .tuple #[.agg #[.int .i64 X, .int .i64 Y], .bool Z]) := by show _ = _; unfold enR enA; rw [hX, hY, hZ]
  clear hO hX hY hZ hin2 hk2 h20 h21 hr2
  go_wp2_with fail
  refine bodyPost_ret (results_row_tmp rfl _ _ w.heap.size 25 #[.int .i64 X, .int .i64 Y] (0, 0) _ rfl (HE.out X Y).2 HU.out rfl HINF.out) rfl ?_
  rw [HO.out, HXX.out]
  exact (HE.out X Y).1
set_option maxHeartbeats 2000000 in
set_option maxRecDepth 100000 in
theorem lastP_any (I : AImpl) {p : Value} {A : Ar} {rd : Int} {F : Nat → Prop} {i : Nat} {t : Tr} {l : List En} (w : World) (hI : I.Is w p A rd F) (hT : TreeAt A i t l) (h0 : 0 ≤ rd) (h1 : rd ≤ 1099511627776) (hW : ∀ e ∈ l, i64R e.key) :
    Calls Tryz.prog 40 #[p, .int .u32 (i : Int)] w (ReadsTo I p A rd F (mostI l.length) (enR (l.getLast?)) w) := by
  obtain ⟨pa, rfl⟩ := I.ptr hI
  have hin : (Tryz.prog.info? 25).map (·.size) = some 2 := by kernel_rfl
  have HINF := Lib.hid hin
  have HU : Hid _ := Lib.hid Tryz.underlying25
  have hv : floorE l 9223372036854775807 = l.getLast? := floor_last hT.up hW
  have HC : Hid (∀ (wx : World) (F1 : Nat → Prop), I.Is wx (.pointer (some pa)) A rd F1 → Calls Tryz.prog 62 #[.pointer (some pa), .int .u32 (i : Int), .int .i64 9223372036854775807] wx (ReadsTo I (.pointer (some pa)) A rd F1 (mostI l.length) (enR (l.getLast?)) wx)) := fun wx F1 hI1 => hv ▸ floorP_any I 9223372036854775807 wx hI1 hT h0 h1 (by unfold i64R; omega)
  have hin1 := (In.start hI).alloc (.cells #[.int .i64 0, .int .i64 0] 25)
  have hr1 := heap_alloc_new w (.cells #[.int .i64 0, .int .i64 0] 25)
  clear hI hT h0 h1 hW hv hin
  go_enter Tryz.func40, Tryz.ntmps40
  go_upto_region 1 with fail
  generalize w.alloc (Obj.cells #[.int .i64 0, .int .i64 0] 25) = w1 at hin1 hr1 ⊢
  have HIN1 := Lib.hid hin1
  have HR1 := Lib.hid hr1
  clear hin1 hr1
  go_wp2_with fail
  refine (HIN1.out.call fun F1 hI1 => HC.out w1 F1 hI1).mono ?_
  rintro e w2 ⟨rfl, rd2, hin2, hk2, h20, h21⟩
  have hr2 := (hk2 w.heap.size (.inr rfl)).trans HR1.out
  obtain ⟨r0, r1⟩ := two_ofE hr2
  have f0 := frozen_of_row _ _ 0 _ _ hr2
  have f1 := frozen_of_row _ _ 1 _ _ hr2
  obtain ⟨O, hO⟩ : ∃ O, l.getLast? = O := ⟨_, rfl⟩
  rw [hO]
  have HO := Lib.hid hO
  have HE : Hid (∀ x y, ReadsTo I (.pointer (some pa)) A rd F (mostI l.length) (enR O) w (.returned (enR O)) ((w2.setCell ⟨w.heap.size, 0, none⟩ (.int .i64 x)).setCell ⟨w.heap.size, 1, none⟩ (.int .i64 y)) ∧
      ((w2.setCell ⟨w.heap.size, 0, none⟩ (.int .i64 x)).setCell ⟨w.heap.size, 1, none⟩ (.int .i64 y)).heap[w.heap.size]? = some (.cells #[.int .i64 x, .int .i64 y] 25 (0, 0))) := fun x y =>
    ⟨(hin2.set2 (g := w.heap.size) (.inr rfl) (Nat.le_refl _) (.int .i64 x) (.int .i64 y)).ends h20 h21, by rw [heap_setCell_same _ _ 1 _ _ _ (heap_setCell_same _ _ 0 _ _ _ hr2)]; rfl⟩
  unfold enR enA at HE ⊢
  obtain ⟨X, hX⟩ : ∃ X, O.elim (0 : Int) (·.key) = X := ⟨_, rfl⟩
  obtain ⟨Y, hY⟩ : ∃ Y, O.elim (0 : Int) (·.val) = Y := ⟨_, rfl⟩
  obtain ⟨Z, hZ⟩ : ∃ Z, O.isSome = Z := ⟨_, rfl⟩
  rw [hX, hY, hZ] at HE ⊢
  have HXX : Hid (enR O = .tuple #[.agg #[.int .i64 X, .int .i64 Y], .bool Z]) := by show _ = _; unfold enR enA; rw [hX, hY, hZ]
  clear hO hX hY hZ hin2 hk2 h20 h21 hr2
  go_wp2_with fail
  refine bodyPost_ret (results_row_tmp rfl _ _ w.heap.size 25 #[.int .i64 X, .int .i64 Y] (0, 0) _ rfl (HE.out X Y).2 HU.out rfl HINF.out) rfl ?_
  rw [HO.out, HXX.out]
  exact (HE.out X Y).1
theorem lkImpl (I : AImpl) : LkImpl I where
  first := fun w hI hT h0 h1 hk => firstP_any I w hI hT h0 h1 hk
  last := fun w hI hT h0 h1 hk => lastP_any I w hI hT h0 h1 hk
  floor := fun k w hI hT h0 h1 hk => floorP_any I k w hI hT h0 h1 hk
  ceiling := fun k w hI hT h0 h1 hk => ceilingP_any I k w hI hT h0 h1 hk
end Go.Proofs.YtehaffcjoafkcaaGreat
set_option linter.unusedVariables false
set_option linter.unusedSimpArgs false
namespace Go.Proofs.YtehaffcjoafkcaaGreat
open Go.RowKit
theorem need_ok {a b c more extra factor : Int} (ha : vld a) (hb : vld b) (hc : vld c) : needI a b c more extra factor = extra + factor * (xhI (a + b + c + more) + 2) := if_pos ⟨ha, hb, hc⟩
theorem vld0 : vld 0 := ⟨by decide, by decide⟩
end Go.Proofs.YtehaffcjoafkcaaGreat
set_option linter.unusedVariables false
set_option linter.unusedSimpArgs false
namespace Go.Proofs.YtehaffcjoafkcaaGreat
open Go.RowKit
theorem wt_80 {n : Nat} (h : n ≤ 80) : wt n < 1000000000000 := Nat.lt_of_le_of_lt (wt_mono h) wt_small
theorem leastAbove_any {j : Nat} (h : wt (j + 1) < 1000000000000) (w : World) : Calls Tryz.prog 106 #[.int .i64 (wt j : Int)] w fun e w' => e = .returned (.int .i64 (wt (j + 1) : Int)) ∧ w' = w := by
  have h1 := wt_succ j
  have h2 : wrap64 ((wt j : Int) + 3) = (wt j : Int) + 3 := by unfold wrap64; omega
  have h3 : wrap64 ((wt j : Int) + 3 - 1) = (wt j : Int) + 2 := by unfold wrap64; omega
  have h4 : wrap64 ((wt j : Int) + wrap64 (((wt j : Int) + 2).tdiv 3)) = (wt (j + 1) : Int) := by
    rw [Int.tdiv_eq_ediv_of_nonneg (by omega)]
    unfold wrap64
    omega
  have H2 := Lib.hid h2
  have H3 := Lib.hid h3
  have H4 := Lib.hid h4
  clear h1 h2 h3 h4 h
  generalize (wt (j + 1) : Int) = Y at H4 ⊢
  generalize (wt j : Int) = X at H2 H3 H4 ⊢
  go_enter Tryz.func106, Tryz.ntmps106
  go_wp2_with fail
  go_ret
  exact ⟨by show Ending.returned (Value.int IntKind.i64 (wrap64 (X + wrap64 ((wrap64 (wrap64 (X + 3) - 1)).tdiv 3)))) = _; rw [H2.out, H3.out, H4.out], rfl⟩
theorem weight_any {n : Int} (h0 : 0 ≤ n) (h1 : n ≤ 2147483647) (w : World) : Calls Tryz.prog 88 #[.int .i64 n] w fun e w' => e = .returned (.int .i64 (n + 1)) ∧ w' = w := by
  have h2 : wrap64 (n + 1) = n + 1 := by unfold wrap64; omega
  have H2 := Lib.hid h2
  clear h0 h1 h2
  go_enter Tryz.func88, Tryz.ntmps88
  go_wp2_with fail
  go_ret
  exact ⟨by show Ending.returned (Value.int IntKind.i64 (wrap64 (n + 1))) = _; rw [H2.out], rfl⟩
theorem isSize_any (n : Int) (w : World) : Calls Tryz.prog 87 #[.int .i64 n] w fun e w' => e = .returned (.bool (decide (0 ≤ n ∧ n ≤ 2147483647))) ∧ w' = w := by
  by_cases h1 : 0 ≤ n
  · have hd : decide (n ≥ 0) = true := decide_eq_true h1
    have hd2 : decide (0 ≤ n) = true := decide_eq_true h1
    by_cases h2 : n ≤ 2147483647
    · have hd3 : decide (n ≤ 2147483647) = true := decide_eq_true h2
      have HE : Hid (decide (0 ≤ n ∧ n ≤ 2147483647) = true) := decide_eq_true ⟨h1, h2⟩
      clear h1 h2
      go_enter Tryz.func87, Tryz.ntmps87
      go_wp2_with fail
      go_ret
      exact ⟨by rw [HE.out]; rfl, rfl⟩
    · have hd3 : decide (n ≤ 2147483647) = false := decide_eq_false h2
      have HE : Hid (decide (0 ≤ n ∧ n ≤ 2147483647) = false) := decide_eq_false (fun h => h2 h.2)
      clear h1 h2
      go_enter Tryz.func87, Tryz.ntmps87
      go_wp2_with fail
      go_ret
      exact ⟨by rw [HE.out]; rfl, rfl⟩
  · have hd : decide (n ≥ 0) = false := decide_eq_false h1
    have hd2 : decide (0 ≤ n) = false := decide_eq_false h1
    have HE : Hid (decide (0 ≤ n ∧ n ≤ 2147483647) = false) := decide_eq_false (fun h => h1 h.1)
    clear h1
    go_enter Tryz.func87, Tryz.ntmps87
    go_wp2_with fail
    go_ret
    exact ⟨by rw [HE.out]; rfl, rfl⟩
set_option maxHeartbeats 1000000 in
set_option maxRecDepth 100000 in
theorem maxHeight_any (n : Int) (w : World) (h0 : -9223372036854775808 ≤ n) (h1 : n ≤ 9223372036854775807) : Calls Tryz.prog 86 #[.int .i64 n] w (Calm w (.int .i64 (xhI n))) := by
  by_cases hr : 0 ≤ n ∧ n ≤ 2147483647
  · obtain ⟨m, rfl⟩ := Int.eq_ofNat_of_zero_le hr.1
    have hm : m ≤ 2147483647 := by omega
    have HM := Lib.hid hm
    have HD : Hid (decide (0 ≤ (m : Int) ∧ (m : Int) ≤ 2147483647) = true) := decide_eq_true hr
    have HX : Hid (xhI (m : Int) = (xh m : Int)) := by
      show xhI (m : Int) = _
      unfold xhI
      rw [if_pos hr, Int.toNat_natCast]
    clear hr h0 h1 hm
    go_enter Tryz.func86, Tryz.ntmps86
    go_wp2_with fail
    refine (isSize_any (m : Int) w).mono ?_
    rintro e w1 ⟨rfl, rfl⟩
    rw [HD.out]
    go_wp2_with fail
    refine (leastAbove_any (j := 0) (by decide) w1).mono ?_
    rintro e w2 ⟨rfl, rfl⟩
    go_wp2_with fail
    go_loopw [3, 4] (fun x y wr => ∃ j : Nat, x = .int .i64 (j : Int) ∧ y = .int .i64 (wt (j + 1) : Int) ∧ j < 80 ∧ wt j - 1 ≤ m ∧ wr = w2) (fun x _ _ => 80 - (intOf x).toNat)
    case atStart => exact ⟨0, rfl, rfl, by omega, by unfold wt; omega, rfl⟩
    case round =>
      obtain ⟨j, rfl, rfl, hj, hwj, rfl⟩ := hrel
      have HJ : Hid (j < 80 ∧ wt j - 1 ≤ m) := ⟨hj, hwj⟩
      have hwp := wt_pos (j + 1)
      obtain ⟨V, hV⟩ : ∃ V, wt (j + 1) = V := ⟨_, rfl⟩
      have HV := Lib.hid hV
      have HM1 : Hid ((0 : Int) ≤ (m : Int) ∧ (m : Int) ≤ 2147483647) := ⟨by omega, by have := HM.out; omega⟩
      rw [hV]
      by_cases hle : V ≤ m + 1
      · have hj1 : j + 1 < 80 := by
          rcases Nat.lt_or_ge (j + 1) 80 with h | h
          · exact h
          · have h1 := wt_mono h
            have h2 := wt_big
            have h3 := HM.out
            omega
        have hw82 := wt_80 (show j + 1 + 1 ≤ 80 by omega)
        have hlei : decide ((V : Int) ≤ (m : Int) + 1) = true := decide_eq_true (by omega)
        have hleN : decide (V ≤ m + 1) = true := decide_eq_true hle
        have hw1 : IntKind.i64.wrap ((j : Int) + 1) = (j : Int) + 1 := by rw [IntKind.wrap_i64]; omega
        have HN : Hid (∃ k : Nat, ((j : Int) + 1 : Int) = (k : Int) ∧ (wt (j + 1 + 1) : Int) = (wt (k + 1) : Int) ∧ k < 80 ∧ wt k - 1 ≤ m) := ⟨j + 1, by omega, rfl, hj1, by omega⟩
        have HLA : Hid (∀ w : World, Calls Tryz.prog 106 #[.int .i64 (V : Int)] w fun e w' => e = .returned (.int .i64 (wt (j + 1 + 1) : Int)) ∧ w' = w) := fun w => by
          rw [← hV]; exact leastAbove_any hw82 w
        have HLE : Hid (V ≤ m + 1) := hle
        clear hj hwj hwp hV hj1 hw82 hle
        generalize wt (j + 1 + 1) = U at HN HLA
        go_wp2_with fail
        refine (weight_any HM1.out.1 HM1.out.2 wr).mono ?_
        rintro e w3 ⟨rfl, rfl⟩
        go_wp2_with fail
        refine (HLA.out w3).mono ?_
        rintro e w4 ⟨rfl, rfl⟩
        go_wp2_with fail
        obtain ⟨k, h1, h2, h3, h4⟩ := HN.out
        exact ⟨⟨k, by rw [h1], by rw [h2], h3, h4, trivial⟩, by have := HJ.out; simp [intOf]; omega⟩
      · have hlei : decide ((V : Int) ≤ (m : Int) + 1) = false := decide_eq_false (by omega)
        have hleN : decide (V ≤ m + 1) = false := decide_eq_false hle
        have hleM : ¬ V ≤ m + 1 := hle
        have HE : Hid (xhI (m : Int) = (j : Int)) := by
          show xhI (m : Int) = _
          rw [HX.out, xh_of HM.out HJ.out.2 (by omega)]
        clear hj hwj hwp hV hle
        go_wp2_with fail
        refine (weight_any HM1.out.1 HM1.out.2 wr).mono ?_
        rintro e w3 ⟨rfl, rfl⟩
        go_wp2_with fail
        go_ret
        exact ⟨by rw [HE.out]; rfl, Below.refl _ _⟩
  · have HE : Hid (xhI n = -1) := if_neg hr
    have HD : Hid (decide (0 ≤ n ∧ n ≤ 2147483647) = false) := decide_eq_false hr
    clear hr h0 h1
    go_enter Tryz.func86, Tryz.ntmps86
    go_wp2_with fail
    refine (isSize_any n w).mono ?_
    rintro e w1 ⟨rfl, rfl⟩
    rw [HD.out]
    go_wp2_with fail
    go_ret
    exact ⟨by rw [HE.out]; rfl, Below.refl _ _⟩
set_option maxHeartbeats 1000000 in
set_option maxRecDepth 100000 in
theorem balancedP_any (l r : Int) (w : World) (hl0 : -9223372036854775808 ≤ l) (hl1 : l ≤ 9223372036854775807) (hr0 : -9223372036854775808 ≤ r) (hr1 : r ≤ 9223372036854775807) : Calls Tryz.prog 66 #[.int .i64 l, .int .i64 r] w (Calm w (.bool (bal l r))) := by
  by_cases hl : 0 ≤ l ∧ l ≤ 2147483647
  · have HL : Hid (decide (0 ≤ l ∧ l ≤ 2147483647) = true) := decide_eq_true hl
    by_cases hr : 0 ≤ r ∧ r ≤ 2147483647
    · have HR : Hid (decide (0 ≤ r ∧ r ≤ 2147483647) = true) := decide_eq_true hr
      have w1 : IntKind.i64.wrap (l + 1) = l + 1 := by rw [IntKind.wrap_i64]; omega
      have w2 : IntKind.i64.wrap (r + 1) = r + 1 := by rw [IntKind.wrap_i64]; omega
      have w3 : IntKind.i64.wrap (3 * (l + 1)) = 3 * (l + 1) := by rw [IntKind.wrap_i64]; omega
      have w4 : IntKind.i64.wrap (3 * (r + 1)) = 3 * (r + 1) := by rw [IntKind.wrap_i64]; omega
      have HB : Hid (bal l r = (decide (l + 1 ≤ 3 * (r + 1)) && decide (r + 1 ≤ 3 * (l + 1)))) := by
        show bal l r = _
        unfold bal
        rw [← Bool.decide_and]
        exact decide_eq_decide.2 (by omega)
      have HLI := Lib.hid hl
      have HRI := Lib.hid hr
      generalize hb1 : decide (l + 1 ≤ 3 * (r + 1)) = b1 at HB
      generalize hb2 : decide (r + 1 ≤ 3 * (l + 1)) = b2 at HB
      clear hl hr hl0 hl1 hr0 hr1
      cases b1
      all_goals (
        go_enter Tryz.func66, Tryz.ntmps66
        go_wp2_with fail
        refine (isSize_any l w).mono ?_
        rintro e w5 ⟨rfl, rfl⟩
        rw [HL.out]
        go_wp2_with fail
        refine (isSize_any r w5).mono ?_
        rintro e w6 ⟨rfl, rfl⟩
        rw [HR.out]
        go_wp2_with fail
        refine (weight_any HLI.out.1 HLI.out.2 w6).mono ?_
        rintro e w7 ⟨rfl, rfl⟩
        go_wp2_with fail
        refine (weight_any HRI.out.1 HRI.out.2 w7).mono ?_
        rintro e w8 ⟨rfl, rfl⟩
        go_wp2_with fail
        go_ret
        exact ⟨by rw [HB.out]; rfl, Below.refl _ _⟩)
    · have HR : Hid (decide (0 ≤ r ∧ r ≤ 2147483647) = false) := decide_eq_false hr
      have HB : Hid (bal l r = false) := decide_eq_false (fun h => hr ⟨h.2.2.1, h.2.2.2.1⟩)
      clear hl hr hl0 hl1 hr0 hr1
      go_enter Tryz.func66, Tryz.ntmps66
      go_wp2_with fail
      refine (isSize_any l w).mono ?_
      rintro e w5 ⟨rfl, rfl⟩
      rw [HL.out]
      go_wp2_with fail
      refine (isSize_any r w5).mono ?_
      rintro e w6 ⟨rfl, rfl⟩
      rw [HR.out]
      go_wp2_with fail
      go_ret
      exact ⟨by rw [HB.out]; rfl, Below.refl _ _⟩
  · have HL : Hid (decide (0 ≤ l ∧ l ≤ 2147483647) = false) := decide_eq_false hl
    have HB : Hid (bal l r = false) := decide_eq_false (fun h => hl ⟨h.1, h.2.1⟩)
    clear hl hl0 hl1 hr0 hr1
    go_enter Tryz.func66, Tryz.ntmps66
    go_wp2_with fail
    refine (isSize_any l w).mono ?_
    rintro e w5 ⟨rfl, rfl⟩
    rw [HL.out]
    go_wp2_with fail
    go_ret
    exact ⟨by rw [HB.out]; rfl, Below.refl _ _⟩
end Go.Proofs.YtehaffcjoafkcaaGreat
set_option linter.unusedVariables false
set_option linter.unusedSimpArgs false
namespace Go.Proofs.YtehaffcjoafkcaaGreat
open Go.RowKit
theorem valid_any (n : Int) (w : World) : Calls Tryz.prog 64 #[.int .i64 n] w fun e w' => e = .returned (.bool (decide (vld n))) ∧ w' = w := by
  by_cases h1 : 0 ≤ n
  · have hd : decide (n ≥ 0) = true := decide_eq_true h1
    have hd2 : decide (0 ≤ n) = true := decide_eq_true h1
    by_cases h2 : n ≤ 65536
    · have hd3 : decide (n ≤ 65536) = true := decide_eq_true h2
      have HE : Hid (decide (vld n) = true) := decide_eq_true ⟨h1, h2⟩
      clear h1 h2
      go_enter Tryz.func64, Tryz.ntmps64
      go_wp2_with fail
      go_ret
      exact ⟨by rw [HE.out]; rfl, rfl⟩
    · have hd3 : decide (n ≤ 65536) = false := decide_eq_false h2
      have HE : Hid (decide (vld n) = false) := decide_eq_false (fun h => h2 h.2)
      clear h1 h2
      go_enter Tryz.func64, Tryz.ntmps64
      go_wp2_with fail
      go_ret
      exact ⟨by rw [HE.out]; rfl, rfl⟩
  · have hd : decide (n ≥ 0) = false := decide_eq_false h1
    have hd2 : decide (0 ≤ n) = false := decide_eq_false h1
    have HE : Hid (decide (vld n) = false) := decide_eq_false (fun h => h1 h.1)
    clear h1
    go_enter Tryz.func64, Tryz.ntmps64
    go_wp2_with fail
    go_ret
    exact ⟨by rw [HE.out]; rfl, rfl⟩
theorem pathR_any (n : Int) (w : World) (h0 : 0 ≤ n) (h1 : n ≤ 1000000) : Calls Tryz.prog 65 #[.int .i64 n] w (Calm w (.int .i64 (xhI n + 2))) := by
  have hX := xhI_in h0 h1
  have HC := Lib.hid (maxHeight_any n w (by omega) (by omega))
  obtain ⟨X, hXX⟩ : ∃ X, xhI n = X := ⟨_, rfl⟩
  rw [hXX] at hX HC ⊢
  have w4 : IntKind.i64.wrap (X + 2) = X + 2 := by rw [IntKind.wrap_i64]; omega
  clear h0 h1 hX hXX
  go_enter Tryz.func65, Tryz.ntmps65
  go_wp2_with fail
  refine HC.out.mono ?_
  rintro e w1 ⟨rfl, hb⟩
  have HB := Lib.hid hb
  clear hb
  go_wp2_with fail
  go_ret
  exact ⟨rfl, HB.out⟩
theorem path_in {f n : Int} (hf : 0 ≤ f ∧ f ≤ 12) (h0 : 0 ≤ n) (h1 : n ≤ 1000000) : 0 ≤ f * (xhI n + 2) ∧ f * (xhI n + 2) ≤ 984 := by
  have hX := xhI_in h0 h1
  have h4 : f * (xhI n + 2) ≤ 12 * 82 := Int.mul_le_mul hf.2 (by omega) (by omega) (by decide)
  exact ⟨Int.mul_nonneg hf.1 (by omega), by omega⟩
set_option maxHeartbeats 1000000 in
set_option maxRecDepth 100000 in
theorem rsJoin_any (l r : Int) (w : World) (hl : in64 l) (hr : in64 r) : Calls Tryz.prog 42 #[.int .i64 l, .int .i64 r] w (Calm w (.int .i64 (joinI l r))) := by
  by_cases vl : vld l
  rotate_left
  · have HE : Hid (joinI l r = -1) := by show joinI l r = -1; unfold joinI needI; rw [if_neg (fun h => vl h.1)]
    have HV : Hid (decide (vld l) = false) := decide_eq_false vl
    clear hl hr vl
    go_enter Tryz.func42, Tryz.ntmps42
    go_wp2_with fail
    refine (valid_any l _).mono ?_
    rintro e wv ⟨rfl, rfl⟩
    rw [HV.out]
    go_wp2_with fail
    go_ret
    exact ⟨by rw [HE.out]; rfl, Below.refl _ _⟩
  by_cases vr : vld r
  rotate_left
  · have HE : Hid (joinI l r = -1) := by show joinI l r = -1; unfold joinI needI; rw [if_neg (fun h => vr h.2.1)]
    have HV : Hid (decide (vld r) = false) := decide_eq_false vr
    have HVl : Hid (decide (vld l) = true) := decide_eq_true vl
    clear hl hr vl vr
    go_enter Tryz.func42, Tryz.ntmps42
    go_wp2_with fail
    refine (valid_any l _).mono ?_
    rintro e wv ⟨rfl, rfl⟩
    rw [HVl.out]
    go_wp2_with fail
    refine (valid_any r _).mono ?_
    rintro e wv ⟨rfl, rfl⟩
    rw [HV.out]
    go_wp2_with fail
    go_ret
    exact ⟨by rw [HE.out]; rfl, Below.refl _ _⟩
  have hE : joinI l r = 0 + 4 * (xhI (l + r + 0 + 1) + 2) := need_ok vl vr vld0
  have HVl : Hid (decide (vld l) = true) := decide_eq_true vl
  have HVr : Hid (decide (vld r) = true) := decide_eq_true vr
  rw [show l + r + 0 + 1 = l + r + 1 by omega] at hE
  have har : 0 ≤ l + r + 1 ∧ l + r + 1 ≤ 1000000 := by unfold vld at vl vr; omega
  have hpi := path_in (f := 4) ⟨by decide, by decide⟩ har.1 har.2
  have HC : Hid (∀ wx, Calls Tryz.prog 65 #[.int .i64 (l + r + 1)] wx (Calm wx (.int .i64 (xhI (l + r + 1) + 2)))) := fun wx => pathR_any (l + r + 1) wx har.1 har.2
  obtain ⟨Q, hQ⟩ : ∃ Q, xhI (l + r + 1) + 2 = Q := ⟨_, rfl⟩
  rw [hQ] at hE hpi HC
  have hq1 : IntKind.i64.wrap (4 * Q) = 4 * Q := by rw [IntKind.wrap_i64]; omega
  have hs0 : IntKind.i64.wrap (l + r) = l + r := by unfold vld at vl vr; rw [IntKind.wrap_i64]; omega
  have hs1 : IntKind.i64.wrap (l + r + 1) = l + r + 1 := by unfold vld at vl vr; rw [IntKind.wrap_i64]; omega
  have HE := Lib.hid hE
  clear hE har hpi hQ hl vl hr vr
  go_enter Tryz.func42, Tryz.ntmps42
  go_wp2_with fail
  refine (valid_any l _).mono ?_
  rintro e wv ⟨rfl, rfl⟩
  rw [HVl.out]
  go_wp2_with fail
  refine (valid_any r _).mono ?_
  rintro e wv ⟨rfl, rfl⟩
  rw [HVr.out]
  go_wp2_with fail
  refine (HC.out _).mono ?_
  rintro e w2 ⟨rfl, hb2⟩
  have HB2 := Lib.hid hb2
  clear hb2
  go_wp2_with fail
  go_ret
  exact ⟨by rw [HE.out, Int.zero_add]; rfl, HB2.out⟩
set_option maxHeartbeats 1000000 in
set_option maxRecDepth 100000 in
theorem rsSplit_any (n : Int) (w : World) (hn : in64 n) : Calls Tryz.prog 55 #[.int .i64 n] w (Calm w (.int .i64 (splitI n))) := by
  by_cases vn : vld n
  rotate_left
  · have HE : Hid (splitI n = -1) := by show splitI n = -1; unfold splitI needI; rw [if_neg (fun h => vn h.1)]
    have HV : Hid (decide (vld n) = false) := decide_eq_false vn
    clear hn vn
    go_enter Tryz.func55, Tryz.ntmps55
    go_wp2_with fail
    refine (valid_any n _).mono ?_
    rintro e wv ⟨rfl, rfl⟩
    rw [HV.out]
    go_wp2_with fail
    go_ret
    exact ⟨by rw [HE.out]; rfl, Below.refl _ _⟩
  have hE : splitI n = 0 + 12 * (xhI (n + 0 + 0 + 0) + 2) := need_ok vn vld0 vld0
  have HVn : Hid (decide (vld n) = true) := decide_eq_true vn
  rw [show n + 0 + 0 + 0 = n by omega] at hE
  have har : 0 ≤ n ∧ n ≤ 1000000 := by unfold vld at vn; omega
  have hpi := path_in (f := 12) ⟨by decide, by decide⟩ har.1 har.2
  have HC : Hid (∀ wx, Calls Tryz.prog 65 #[.int .i64 (n)] wx (Calm wx (.int .i64 (xhI (n) + 2)))) := fun wx => pathR_any (n) wx har.1 har.2
  obtain ⟨Q, hQ⟩ : ∃ Q, xhI (n) + 2 = Q := ⟨_, rfl⟩
  rw [hQ] at hE hpi HC
  have hq1 : IntKind.i64.wrap (12 * Q) = 12 * Q := by rw [IntKind.wrap_i64]; omega
  have HE := Lib.hid hE
  clear hE har hpi hQ hn vn
  go_enter Tryz.func55, Tryz.ntmps55
  go_wp2_with fail
  refine (valid_any n _).mono ?_
  rintro e wv ⟨rfl, rfl⟩
  rw [HVn.out]
  go_wp2_with fail
  refine (HC.out _).mono ?_
  rintro e w2 ⟨rfl, hb2⟩
  have HB2 := Lib.hid hb2
  clear hb2
  go_wp2_with fail
  go_ret
  exact ⟨by rw [HE.out, Int.zero_add]; rfl, HB2.out⟩
end Go.Proofs.YtehaffcjoafkcaaGreat
