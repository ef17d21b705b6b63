/- The program's searches for the nearest entries keep their contracts. -/
import Derived.Test.YtcdfgnbdbmmcpaaLkOk1
import Derived.Test.YtcdfgnbdbmmcpaaSlotsAid
set_option linter.unusedVariables false
set_option linter.unusedSimpArgs false
namespace Go.Proofs.Ytcdfgnbdbmmcpaa
open Go.RowKit
section
variable {I : AImpl} {w wr wx : World} {F : Nat → Prop} {p : Value} {A : Ar} {rd : Int} {X : Nat → Prop}
theorem In.set2 (h : In I w F p A rd X wr) {g : Nat} (hg : X g) (hn : w.heap.size ≤ g) (x y : Value) : In I w F p A rd X ((wr.setCell ⟨g, 0, none⟩ x).setCell ⟨g, 1, none⟩ y) := by
  obtain ⟨F1, f1, f2, f3⟩ := h.mr.has
  have ho : ∀ k, k ≠ g → ((wr.setCell ⟨g, 0, none⟩ x).setCell ⟨g, 1, none⟩ y).heap[k]? = wr.heap[k]? := fun k hk => by rw [heap_setCell_other _ _ _ _ hk, heap_setCell_other _ _ _ _ hk]
  have hsz : ((wr.setCell ⟨g, 0, none⟩ x).setCell ⟨g, 1, none⟩ y).heap.size = wr.heap.size := by simp [World.setCell]
  refine ⟨⟨⟨F1, I.keep f1 fun k hk => ho k fun e => (f3 g (.inr hg)).2 (e ▸ hk), f2, fun k hk => ⟨by rw [hsz]; exact (f3 k hk).1, (f3 k hk).2⟩⟩, ?_, Nat.zero_le _⟩, fun k hk => ?_⟩
  · exact h.mr.below.trans ⟨rfl, rfl, rfl, Nat.le_of_eq hsz.symm, fun k hk => by omega⟩
  · have hne : k ≠ g := fun e => by have := hk.1; omega
    exact (ho k hne).trans (h.kp k hk)
theorem In.call {bd : Int} {v : Value} {f : FuncId} {args : Array Value} (h : In I w F p A rd X wr) (hc : ∀ F1, I.Is wr p A rd F1 → Calls Try.prog f args wr (ReadsTo I p A rd F1 bd v wr)) :
    Calls Try.prog f args wr fun e w' => e = .returned v ∧ ∃ rd', In I w F p A rd' X w' ∧ Keeps X wr w' ∧ rd ≤ rd' ∧ rd' ≤ rd + bd := by
  refine (mr_call h.mr hc).mono ?_
  rintro e w1 ⟨he, rd', h1, h2, h3, h4⟩
  exact ⟨he, rd', ⟨h1, fun k hk => (h2 k (.inl hk)).trans (h.kp k hk)⟩, fun k hk => h2 k (.inr hk), h3, h4⟩
end
/-- the result's box and the best entry's box -/
structure BB (I : AImpl) (w : World) (F : Nat → Prop) (p : Value) (A : Ar) (rd : Int) (r b : Nat) (o : Option En) (wr : World) : Prop where
  ins : In I w F p A rd (fun k => k = r ∨ k = b) wr
  hr : wr.heap[r]? = some (.cells #[.int .i64 0, .int .i64 0] 41 (0, 0))
  hb : wr.heap[b]? = some (.cells #[.int .i64 (o.elim 0 (·.key)), .int .i64 (o.elim 0 (·.val))] 41 (0, 0))
  ne : r ≠ b
  old : w.heap.size ≤ r ∧ w.heap.size ≤ b
section
variable {I : AImpl} {w wr wx : World} {F : Nat → Prop} {p : Value} {A : Ar} {rd rd' : Int} {r b : Nat} {o : Option En}
theorem BB.start (h : I.Is w p A rd F) : BB I w F p A rd w.heap.size (w.heap.size + 1) none ((w.alloc (.cells #[.int .i64 0, .int .i64 0] 41)).alloc (.cells #[.int .i64 0, .int .i64 0] 41)) := by
  have h1 := (In.start h).alloc (.cells #[.int .i64 0, .int .i64 0] 41)
  have h2 := h1.alloc (.cells #[.int .i64 0, .int .i64 0] 41)
  refine ⟨h2.less fun k hk => ?_, ?_, ?_, by omega, by omega⟩
  · rcases hk with rfl | rfl
    · exact .inl (.inr rfl)
    · exact .inr (by simp)
  · exact (h1.keeps (below_new7 _ _) _ (.inr rfl)).trans (heap_alloc_new w _)
  · have := heap_alloc_new (w.alloc (.cells #[.int .i64 0, .int .i64 0] 41)) (.cells #[.int .i64 0, .int .i64 0] 41)
    rw [World.size_alloc] at this
    exact this
theorem BB.calm (h : BB I w F p A rd r b o wr) (hb : Below wr.heap.size wr wx) : BB I w F p A rd r b o wx :=
  ⟨h.ins.calm hb, (h.ins.keeps hb r (.inl rfl)).trans h.hr, (h.ins.keeps hb b (.inr rfl)).trans h.hb, h.ne, h.old⟩
theorem BB.step (h : BB I w F p A rd r b o wr) (hi : In I w F p A rd' (fun k => k = r ∨ k = b) wx) (hk : Keeps (fun k => k = r ∨ k = b) wr wx) : BB I w F p A rd' r b o wx :=
  ⟨hi, (hk r (.inl rfl)).trans h.hr, (hk b (.inr rfl)).trans h.hb, h.ne, h.old⟩
theorem BB.put (h : BB I w F p A rd r b o wr) (e : En) : BB I w F p A rd r b (some e) ((wr.setCell ⟨b, 0, none⟩ (.int .i64 e.key)).setCell ⟨b, 1, none⟩ (.int .i64 e.val)) :=
  ⟨h.ins.set2 (.inr rfl) h.old.2 _ _, by rw [heap_setCell_other _ _ _ _ h.ne, heap_setCell_other _ _ _ _ h.ne]; exact h.hr, by rw [heap_setCell_same _ b 1 _ _ _ (heap_setCell_same wr b 0 _ _ _ h.hb)]; rfl, h.ne, h.old⟩
theorem BB.ends {rd0 bd : Int} (h : BB I w F p A rd r b o wr) (h0 : rd0 ≤ rd) (h1 : rd ≤ rd0 + bd) :
    ReadsTo I p A rd0 F bd (enR o) w (.returned (.tuple #[.agg #[.int .i64 (o.elim 0 (·.key)), .int .i64 (o.elim 0 (·.val))], .bool o.isSome])) ((wr.setCell ⟨r, 0, none⟩ (.int .i64 (o.elim 0 (·.key)))).setCell ⟨r, 1, none⟩ (.int .i64 (o.elim 0 (·.val)))) ∧
    ((wr.setCell ⟨r, 0, none⟩ (.int .i64 (o.elim 0 (·.key)))).setCell ⟨r, 1, none⟩ (.int .i64 (o.elim 0 (·.val)))).heap[r]? = some (.cells #[.int .i64 (o.elim 0 (·.key)), .int .i64 (o.elim 0 (·.val))] 41 (0, 0)) :=
  ⟨(h.ins.set2 (.inl rfl) h.old.1 _ _).ends h0 h1, by rw [heap_setCell_same _ r 1 _ _ _ (heap_setCell_same wr r 0 _ _ _ h.hr)]; rfl⟩
end
set_option maxRecDepth 100000 in
theorem entry_any (x : Nd) (w : World) : Calls Try.prog 49 #[.agg (ndRow x)] w (Calm w (.agg #[.int .i64 x.key, .int .i64 x.val])) := by
  have hin : (Try.prog.info? 41).map (·.size) = some 2 := by kernel_rfl
  have HINF := Lib.hid hin
  have HU : Hid _ := Lib.hid Try.underlying41
  have hb := below_new7 w (Obj.cells (ndRow x) 65)
  have hbx := heap_alloc_new w (Obj.cells (ndRow x) 65)
  clear hin
  go_enter Try.func49, Try.ntmps49
  unfold ndRow
  go_upto_region 1 with fail
  rw [show #[Value.int .i64 x.key, .int .i64 x.val, .int .u32 (x.left : Int), .int .u32 (x.right : Int), .int .i64 x.size, .int .i64 x.sum, .int .i64 x.mn, .int .i64 x.mx] = ndRow x from rfl]
  have hsz : w.heap.size < (w.alloc (Obj.cells (ndRow x) 65)).heap.size := by simp
  have hs1 : (w.alloc (Obj.cells (ndRow x) 65)).heap.size = w.heap.size + 1 := World.size_alloc _ _
  generalize w.alloc (Obj.cells (ndRow x) 65) = w2 at hb hbx hsz hs1 ⊢
  generalize hg : w.heap.size = g at hb hbx hsz hs1 ⊢
  have hb3 := below_new7 w2 (Obj.cells #[.int .i64 0, .int .i64 0] 41)
  have hr3 := heap_alloc_new w2 (Obj.cells #[.int .i64 0, .int .i64 0] 41)
  have hx3 := (hb3.block g hsz).trans hbx
  have hb4 := hb.trans (hb3.mono (Nat.le_of_lt hsz))
  (try rw [World.size_alloc])
  generalize w2.alloc (Obj.cells #[.int .i64 0, .int .i64 0] 41) = w3 at hr3 hx3 hb4 ⊢
  clear hb3
  (try rw [hg])
  rw [hs1] at hr3
  generalize hq : g + 1 = q at hr3 ⊢
  have x0 : w3.cell? ⟨g, 0, none⟩ = some (.int .i64 x.key) := by rw [cell_of_row _ _ _ _ _ _ hx3]; rfl
  have x1 : w3.cell? ⟨g, 1, none⟩ = some (.int .i64 x.val) := by rw [cell_of_row _ _ _ _ _ _ hx3]; rfl
  obtain ⟨r0, r1⟩ := two_ofE hr3
  have f0 := frozen_of_row _ _ 0 _ _ hr3
  have f1 := frozen_of_row _ _ 1 _ _ hr3
  have hgq : g ≠ q := by omega
  have HFIN : Hid (Below g w ((w3.setCell ⟨q, 0, none⟩ (.int .i64 x.key)).setCell ⟨q, 1, none⟩ (.int .i64 x.val)) ∧ ((w3.setCell ⟨q, 0, none⟩ (.int .i64 x.key)).setCell ⟨q, 1, none⟩ (.int .i64 x.val)).heap[q]? = some (.cells #[.int .i64 x.key, .int .i64 x.val] 41 (0, 0))) :=
    ⟨(hb4.setCell (by show g ≤ q; omega) _).setCell (by show g ≤ q; omega) _, by rw [heap_setCell_same _ q 1 _ _ _ (heap_setCell_same w3 q 0 _ _ _ hr3)]; rfl⟩
  have HGG := Lib.hid hg
  clear hb hbx hsz hs1 hr3 hx3 hb4 hg hq
  go_wp2_with fail
  refine bodyPost_ret (results_cell_row rfl _ _ q 41 #[.int .i64 x.key, .int .i64 x.val] (0, 0) _ rfl HFIN.out.2 HU.out rfl HINF.out) rfl ?_
  exact ⟨rfl, by rw [HGG.out]; exact HFIN.out.1⟩
def Waybefore (I : AImpl) (w : World) (F : Nat → Prop) (p : Value) (A : Ar) (rd0 : Int) (k : Int) (eq : Bool) (R : Option En) (top : Int) (r b U : Nat) (fd x c : Value) (wr : World) : Prop :=
  ∃ (i n : Nat) (u : Tr) (rd : Int) (o : Option En), fd = .bool o.isSome ∧ x = .int .u32 (i : Int) ∧ c = .int .i64 (n : Int) ∧ Sub A i u ∧ bef A.nd (k + if eq then 1 else 0) u o = R ∧ rd0 ≤ rd ∧ rd + (u.ht : Int) ≤ top ∧ n + u.size ≤ U ∧ BB I w F p A rd r b o wr
def Wayafter (I : AImpl) (w : World) (F : Nat → Prop) (p : Value) (A : Ar) (rd0 : Int) (k : Int) (eq : Bool) (R : Option En) (top : Int) (r b U : Nat) (fd x c : Value) (wr : World) : Prop :=
  ∃ (i n : Nat) (u : Tr) (rd : Int) (o : Option En), fd = .bool o.isSome ∧ x = .int .u32 (i : Int) ∧ c = .int .i64 (n : Int) ∧ Sub A i u ∧ aft A.nd (k + if eq then 0 else 1) u o = R ∧ rd0 ≤ rd ∧ rd + (u.ht : Int) ≤ top ∧ n + u.size ≤ U ∧ BB I w F p A rd r b o wr
set_option maxHeartbeats 4000000 in
set_option maxRecDepth 100000 in
theorem afterP_any (I : AImpl) {p : Value} {A : Ar} {rd : Int} {F : Nat → Prop} {i : Nat} {t : Tr} {l : List En} (k : Int) (eq : Bool) (w : World) (hI : I.Is w p A rd F) (hT : TreeAt A i t l) (h0 : 0 ≤ rd) (h1 : rd ≤ 1099511627776) :
    Calls Try.prog 36 #[p, .int .u32 (i : Int), .int .i64 k, .bool eq] w (ReadsTo I p A rd F (mostI l.length) (enR (aft A.nd (k + if eq then 0 else 1) t none)) w) := by
  obtain ⟨pa, rfl⟩ := I.ptr hI
  have hin : (Try.prog.info? 41).map (·.size) = some 2 := by kernel_rfl
  have HINF := Lib.hid hin
  have HU : Hid _ := Lib.hid Try.underlying41
  have hb := hT.bound
  obtain ⟨R, hR⟩ : ∃ R, aft A.nd (k + if eq then 0 else 1) t none = R := ⟨_, rfl⟩
  rw [hR]
  obtain ⟨M, hM⟩ : ∃ M, mostI l.length = M := ⟨_, rfl⟩
  rw [hM] at hb ⊢
  obtain ⟨held, hv⟩ := hT.inv
  have hcap := hv.ok.cap2
  have hhd := hT.held
  obtain ⟨U, hUU⟩ : ∃ U, U + A.σ.free.length = A.σ.cap := ⟨A.σ.cap - A.σ.free.length, by omega⟩
  have HUU : Hid (U ≤ 65536 ∧ t.size ≤ U) := ⟨by omega, by omega⟩
  have HOK := Lib.hid hv.ok
  have HRD : Hid (0 ≤ rd ∧ rd ≤ 1099511627776 ∧ (t.ht : Int) ≤ M ∧ t.ht ≤ 65536) := ⟨h0, h1, hb.1, hb.2⟩
  have hbb := BB.start hI
  have HLP : Hid (∀ wx F1, I.Is wx (.pointer (some pa)) A rd F1 → Calls Try.prog 48 #[.pointer (some pa)] wx (Calm wx (.int .i64 (U : Int)))) := fun wx F1 h => longest_any I wx h hUU
  have HSUB := Lib.hid hT.sub
  have HRR := Lib.hid hR
  clear hI hT h0 h1 hb hR hM hv hin hcap hhd hUU
  go_enter Try.func36, Try.ntmps36
  go_upto_region 2 with fail
  generalize (w.alloc (Obj.cells #[.int .i64 0, .int .i64 0] 41)).alloc (Obj.cells #[.int .i64 0, .int .i64 0] 41) = w1 at hbb ⊢
  obtain ⟨r, hr⟩ : ∃ r, w.heap.size = r := ⟨_, rfl⟩
  rw [hr] at hbb ⊢
  generalize hb1 : r + 1 = b at hbb ⊢
  have HBB := Lib.hid hbb
  clear hbb hr hb1
  go_wp2_with fail
  obtain ⟨F1, f1, -, -⟩ := HBB.out.ins.mr.has
  refine (HLP.out w1 F1 f1).mono ?_
  rintro e w1' ⟨rfl, hb1'⟩
  have HW0 : Hid (Wayafter I w F (.pointer (some pa)) A rd k eq R (rd + (t.ht : Int)) r b U (.bool false) (.int .u32 (i : Int)) (.int .i64 0) w1') := ⟨i, 0, t, rd, none, rfl, rfl, rfl, HSUB.out, HRR.out, Int.le_refl _, Int.le_refl _, by have := HUU.out; omega, HBB.out.calm hb1'⟩
  clear f1 hb1' HBB HLP
  go_wp2_with fail
  go_loopw [11, 12, 18] (fun fd x c wr => Wayafter I w F (.pointer (some pa)) A rd k eq R (rd + (t.ht : Int)) r b U fd x c wr) (fun _ _ c _ => U - (intOf c).toNat)
  case atStart => exact HW0.out
  case round =>
    clear HW0
    obtain ⟨i, n, u, rd1, o, rfl, rfl, rfl, hu, hg, hr0, hr1, hn, hB⟩ := hrel
    rcases Nat.lt_or_ge n U with hnu | hnu
    rotate_left
    · have hnu2 : decide ((n : Int) < (U : Int)) = false := decide_eq_false (by omega)
      have hu0 : u = .nil := by
        cases u with
        | nil => rfl
        | node i l r =>
          have : (Tr.node i l r).size = l.size + r.size + 1 := rfl
          omega
      subst hu0
      have ho : o = R := hg
      subst ho
      have he := hB.ends hr0 (bd := M) (by have := HRD.out; omega)
      have hUn : ¬ n < U := Nat.not_lt.2 hnu
      clear hu hg hr0 hr1 hn hnu
      have HE := Lib.hid he
      obtain ⟨c0, c1⟩ := two_ofE hB.hb
      obtain ⟨r0, r1⟩ := two_ofE hB.hr
      have f0 := frozen_of_row _ _ 0 _ _ hB.hr
      have f1 := frozen_of_row _ _ 1 _ _ hB.hr
      have hne := hB.ne
      have hne2 : b ≠ r := fun e => hne e.symm
      obtain ⟨X, hX⟩ : ∃ X, o.elim (0 : Int) (·.key) = X := ⟨_, rfl⟩
      obtain ⟨Y, hY⟩ : ∃ Y, o.elim (0 : Int) (·.val) = Y := ⟨_, rfl⟩
      rw [hX] at c0 HE
      rw [hY] at c1 HE
      clear hB he hX hY
      go_wp2_with fail
      refine bodyPost_ret (results_row_tmp rfl _ _ r 41 #[.int .i64 X, .int .i64 Y] (0, 0) _ rfl HE.out.2 HU.out rfl HINF.out) rfl ?_
      exact HE.out.1
    have hnu2 : decide ((n : Int) < (U : Int)) = true := decide_eq_true (by omega)
    have hnu3 : (n : Int) < (U : Int) := by omega
    have hU4 : (U : Int) ≤ 65536 := by have := HUU.out.1; omega
    have hn0 : (0 : Int) ≤ (n : Int) := by omega
    cases u with
    | nil =>
      obtain rfl : i = 0 := by
        cases hu with
        | nil => rfl
      have ho : o = R := hg
      subst ho
      have HR1 : Hid (rd ≤ rd1 ∧ rd1 ≤ rd + (t.ht : Int)) := ⟨hr0, by have : (Tr.nil.ht : Nat) = 0 := rfl; omega⟩
      have HBB := Lib.hid hB
      clear hu hg hr0 hr1 hB hn
      go_wp2_with fail
      refine (HBB.out.ins.off (by have := HR1.out; have := HRD.out; omega) (by have := HR1.out; have := HRD.out; omega)).mono ?_
      rintro e w2 ⟨rfl, hin2, hk2⟩
      have hB2 := (HBB.out.step hin2 hk2).calm (below_new7 w2 (Obj.cells (ndRow Nd.zero) 65))
      clear hin2 hk2 HBB
      unfold ndRow
      go_upto_region 7 with fail
      rw [show #[Value.int .i64 Nd.zero.key, .int .i64 Nd.zero.val, .int .u32 (Nd.zero.left : Int), .int .u32 (Nd.zero.right : Int), .int .i64 Nd.zero.size, .int .i64 Nd.zero.sum, .int .i64 Nd.zero.mn, .int .i64 Nd.zero.mx] = ndRow Nd.zero from rfl]
      generalize w2.alloc (Obj.cells (ndRow Nd.zero) 65) = w3 at hB2 ⊢
      have hB := hB2
      clear hB2
      have he := hB.ends (rd0 := rd) (bd := M) HR1.out.1 (by have := HR1.out; have := HRD.out; omega)
      generalize w2.heap.size = g
      have HE := Lib.hid he
      obtain ⟨c0, c1⟩ := two_ofE hB.hb
      obtain ⟨r0, r1⟩ := two_ofE hB.hr
      have f0 := frozen_of_row _ _ 0 _ _ hB.hr
      have f1 := frozen_of_row _ _ 1 _ _ hB.hr
      have hne := hB.ne
      have hne2 : b ≠ r := fun e => hne e.symm
      obtain ⟨X, hX⟩ : ∃ X, o.elim (0 : Int) (·.key) = X := ⟨_, rfl⟩
      obtain ⟨Y, hY⟩ : ∃ Y, o.elim (0 : Int) (·.val) = Y := ⟨_, rfl⟩
      rw [hX] at c0 HE
      rw [hY] at c1 HE
      clear hB he hX hY
      go_wp2_with fail
      refine bodyPost_ret (results_row_tmp rfl _ _ r 41 #[.int .i64 X, .int .i64 Y] (0, 0) _ rfl HE.out.2 HU.out rfl HINF.out) rfl ?_
      exact HE.out.1
    | node i2 l2 r2 =>
      obtain ⟨rfl, h0, hon, hsl, hsr⟩ : i2 = i ∧ i ≠ 0 ∧ A.σ.on i = true ∧ Sub A (A.nd i).left l2 ∧ Sub A (A.nd i).right r2 := by
        cases hu with
        | node _ _ _ h1 h2 h3 h4 => exact ⟨rfl, h1, h2, h3, h4⟩
      have hi4 : i2 < 4294967296 := by have := HOK.out.on i2 hon; have := HOK.out.cap2; omega
      have hht : (Tr.node i2 l2 r2).ht = 1 + max l2.ht r2.ht := rfl
      rw [show (Tr.node i2 l2 r2).size = l2.size + r2.size + 1 from rfl] at hn
      have HNL : Hid (n + 1 + l2.size ≤ U) := by show _ ≤ _; omega
      have HNR : Hid (n + 1 + r2.size ≤ U) := by show _ ≤ _; omega
      have HSL := Lib.hid hsl
      have HSR := Lib.hid hsr
      have HON := Lib.hid hon
      have HI4 := Lib.hid hi4
      have HR1 : Hid (rd ≤ rd1 ∧ rd1 + 1 + (l2.ht : Int) ≤ rd + (t.ht : Int) ∧ rd1 + 1 + (r2.ht : Int) ≤ rd + (t.ht : Int)) := ⟨hr0, by omega, by omega⟩
      have HBB := Lib.hid hB
      unfold aft at hg
      have HG := Lib.hid hg
      clear hu hg hr0 hr1 hB h0 hon hsl hsr hi4 hht hn
      go_wp2_with fail
      refine (HBB.out.ins.node (by have := HR1.out; have := HRD.out; omega) (by have := HR1.out; have := HRD.out; omega) HI4.out HON.out).mono ?_
      rintro e w2 ⟨rfl, hin2, hk2⟩
      have HB2 := Lib.hid (HBB.out.step hin2 hk2)
      clear hin2 hk2 HBB
      unfold ndRow
      go_upto_region 7 with fail
      rw [show #[Value.int .i64 (A.nd i2).key, .int .i64 (A.nd i2).val, .int .u32 ((A.nd i2).left : Int), .int .u32 ((A.nd i2).right : Int), .int .i64 (A.nd i2).size, .int .i64 (A.nd i2).sum, .int .i64 (A.nd i2).mn, .int .i64 (A.nd i2).mx] = ndRow (A.nd i2) from rfl]
      have hB3 := HB2.out.calm (below_new7 w2 (Obj.cells (ndRow (A.nd i2)) 65))
      have hbx := heap_alloc_new w2 (Obj.cells (ndRow (A.nd i2)) 65)
      have hgb : b < w2.heap.size := HB2.out.ins.mr.lt (.inr (.inr rfl))
      have hgl : w2.heap.size < (w2.alloc (Obj.cells (ndRow (A.nd i2)) 65)).heap.size := by simp
      generalize w2.alloc (Obj.cells (ndRow (A.nd i2)) 65) = w3 at hB3 hbx hgl ⊢
      generalize w2.heap.size = g at hbx hgb hgl ⊢
      have x0 : w3.cell? ⟨g, 0, none⟩ = some (.int .i64 (A.nd i2).key) := by rw [cell_of_row _ _ _ _ _ _ hbx]; rfl
      have x1 : w3.cell? ⟨g, 1, none⟩ = some (.int .i64 (A.nd i2).val) := by rw [cell_of_row _ _ _ _ _ _ hbx]; rfl
      have x2 : w3.cell? ⟨g, 2, none⟩ = some (.int .u32 ((A.nd i2).left : Int)) := by rw [cell_of_row _ _ _ _ _ _ hbx]; rfl
      have x3 : w3.cell? ⟨g, 3, none⟩ = some (.int .u32 ((A.nd i2).right : Int)) := by rw [cell_of_row _ _ _ _ _ _ hbx]; rfl
      have x4 : w3.cell? ⟨g, 4, none⟩ = some (.int .i64 (A.nd i2).size) := by rw [cell_of_row _ _ _ _ _ _ hbx]; rfl
      have x5 : w3.cell? ⟨g, 5, none⟩ = some (.int .i64 (A.nd i2).sum) := by rw [cell_of_row _ _ _ _ _ _ hbx]; rfl
      have x6 : w3.cell? ⟨g, 6, none⟩ = some (.int .i64 (A.nd i2).mn) := by rw [cell_of_row _ _ _ _ _ _ hbx]; rfl
      have x7 : w3.cell? ⟨g, 7, none⟩ = some (.int .i64 (A.nd i2).mx) := by rw [cell_of_row _ _ _ _ _ _ hbx]; rfl
      have HX := Lib.hid hbx
      have HGL : Hid (b < g ∧ g < w3.heap.size) := ⟨hgb, hgl⟩
      have HB3 := Lib.hid hB3
      have HEN := Lib.hid (entry_any (A.nd i2) w3)
      have hg := HG.out
      clear hB3 hbx hgb hgl HB2 HG
      cases eq with
      | true =>
        rw [show k + (if true = true then 0 else 1) = k + 0 from rfl] at hg
        rcases Int.lt_trichotomy (A.nd i2).key k with h | h | h
        · have q1 : decide ((A.nd i2).key < k) = true := decide_eq_true (by omega)
          have q2 : decide ((A.nd i2).key > k) = false := decide_eq_false (by omega)
          have q3 : decide (k < (A.nd i2).key) = false := decide_eq_false (by omega)
          have q4 : ((A.nd i2).key == k) = false := by simp; omega
          rw [if_pos (by omega)] at hg
          clear h
          have HE : Hid (Wayafter I w F (.pointer (some pa)) A rd k true R (rd + (t.ht : Int)) r b U (.bool o.isSome) (.int .u32 ((A.nd i2).right : Int)) (.int .i64 ((n + 1 : Nat) : Int)) w3) := ⟨_, n + 1, r2, rd1 + 1, o, rfl, rfl, rfl, HSR.out, hg, by have := HR1.out; omega, HR1.out.2.2, HNR.out, HB3.out⟩
          generalize o.isSome = ob at HE ⊢
          clear hg HX HB3 HEN
          go_wp2_with fail
          exact ⟨by rw [show ((n : Int) + 1) = ((n + 1 : Nat) : Int) by omega]; exact HE.out, by simp [intOf]; omega⟩
        · have q1 : decide ((A.nd i2).key < k) = false := decide_eq_false (by omega)
          have q2 : decide ((A.nd i2).key > k) = false := decide_eq_false (by omega)
          have q3 : decide (k < (A.nd i2).key) = false := decide_eq_false (by omega)
          have q4 : ((A.nd i2).key == k) = true := by simp; omega
          rw [if_neg (by omega)] at hg
          clear h
          have HG := Lib.hid hg
          clear hg
          go_wp2_with fail
          refine HEN.out.mono ?_
          rintro e w4 ⟨rfl, hb4⟩
          have hx4 := (hb4.block g HGL.out.2).trans HX.out
          have hB4 := HB3.out.calm hb4
          clear x0 x1 x2 x3 x4 x5 x6 x7 hb4
          have x2 : w4.cell? ⟨g, 2, none⟩ = some (.int .u32 ((A.nd i2).left : Int)) := by rw [cell_of_row _ _ _ _ _ _ hx4]; rfl
          have x3 : w4.cell? ⟨g, 3, none⟩ = some (.int .u32 ((A.nd i2).right : Int)) := by rw [cell_of_row _ _ _ _ _ _ hx4]; rfl
          obtain ⟨c0, c1⟩ := two_ofE hB4.hb
          have f0 := frozen_of_row _ _ 0 _ _ hB4.hb
          have f1 := frozen_of_row _ _ 1 _ _ hB4.hb
          have hgne : g ≠ b := by have := HGL.out; omega
          have hgne2 : b ≠ g := by have := HGL.out; omega
          obtain ⟨X, hX⟩ : ∃ X, o.elim (0 : Int) (·.key) = X := ⟨_, rfl⟩
          obtain ⟨Y, hY⟩ : ∃ Y, o.elim (0 : Int) (·.val) = Y := ⟨_, rfl⟩
          rw [hX] at c0
          rw [hY] at c1
          have HE : Hid (Wayafter I w F (.pointer (some pa)) A rd k true R (rd + (t.ht : Int)) r b U (.bool true) (.int .u32 ((A.nd i2).left : Int)) (.int .i64 ((n + 1 : Nat) : Int)) ((w4.setCell ⟨b, 0, none⟩ (.int .i64 (A.nd i2).key)).setCell ⟨b, 1, none⟩ (.int .i64 (A.nd i2).val))) := ⟨_, n + 1, l2, rd1 + 1, some (ndE (A.nd i2)), rfl, rfl, rfl, HSL.out, HG.out, by have := HR1.out; omega, HR1.out.2.1, HNL.out, hB4.put (ndE (A.nd i2))⟩
          clear hx4 hB4 hX hY HX HB3 HEN HG
          go_wp2_with fail
          exact ⟨by rw [show ((n : Int) + 1) = ((n + 1 : Nat) : Int) by omega]; exact HE.out, by simp [intOf]; omega⟩
        · have q1 : decide ((A.nd i2).key < k) = false := decide_eq_false (by omega)
          have q2 : decide ((A.nd i2).key > k) = true := decide_eq_true (by omega)
          have q3 : decide (k < (A.nd i2).key) = true := decide_eq_true (by omega)
          have q4 : ((A.nd i2).key == k) = false := by simp; omega
          rw [if_neg (by omega)] at hg
          clear h
          have HG := Lib.hid hg
          clear hg
          go_wp2_with fail
          refine HEN.out.mono ?_
          rintro e w4 ⟨rfl, hb4⟩
          have hx4 := (hb4.block g HGL.out.2).trans HX.out
          have hB4 := HB3.out.calm hb4
          clear x0 x1 x2 x3 x4 x5 x6 x7 hb4
          have x2 : w4.cell? ⟨g, 2, none⟩ = some (.int .u32 ((A.nd i2).left : Int)) := by rw [cell_of_row _ _ _ _ _ _ hx4]; rfl
          have x3 : w4.cell? ⟨g, 3, none⟩ = some (.int .u32 ((A.nd i2).right : Int)) := by rw [cell_of_row _ _ _ _ _ _ hx4]; rfl
          obtain ⟨c0, c1⟩ := two_ofE hB4.hb
          have f0 := frozen_of_row _ _ 0 _ _ hB4.hb
          have f1 := frozen_of_row _ _ 1 _ _ hB4.hb
          have hgne : g ≠ b := by have := HGL.out; omega
          have hgne2 : b ≠ g := by have := HGL.out; omega
          obtain ⟨X, hX⟩ : ∃ X, o.elim (0 : Int) (·.key) = X := ⟨_, rfl⟩
          obtain ⟨Y, hY⟩ : ∃ Y, o.elim (0 : Int) (·.val) = Y := ⟨_, rfl⟩
          rw [hX] at c0
          rw [hY] at c1
          have HE : Hid (Wayafter I w F (.pointer (some pa)) A rd k true R (rd + (t.ht : Int)) r b U (.bool true) (.int .u32 ((A.nd i2).left : Int)) (.int .i64 ((n + 1 : Nat) : Int)) ((w4.setCell ⟨b, 0, none⟩ (.int .i64 (A.nd i2).key)).setCell ⟨b, 1, none⟩ (.int .i64 (A.nd i2).val))) := ⟨_, n + 1, l2, rd1 + 1, some (ndE (A.nd i2)), rfl, rfl, rfl, HSL.out, HG.out, by have := HR1.out; omega, HR1.out.2.1, HNL.out, hB4.put (ndE (A.nd i2))⟩
          clear hx4 hB4 hX hY HX HB3 HEN HG
          go_wp2_with fail
          exact ⟨by rw [show ((n : Int) + 1) = ((n + 1 : Nat) : Int) by omega]; exact HE.out, by simp [intOf]; omega⟩
      | false =>
        rw [show k + (if false = true then 0 else 1) = k + 1 from rfl] at hg
        rcases Int.lt_trichotomy (A.nd i2).key k with h | h | h
        · have q1 : decide ((A.nd i2).key < k) = true := decide_eq_true (by omega)
          have q2 : decide ((A.nd i2).key > k) = false := decide_eq_false (by omega)
          have q3 : decide (k < (A.nd i2).key) = false := decide_eq_false (by omega)
          have q4 : ((A.nd i2).key == k) = false := by simp; omega
          rw [if_pos (by omega)] at hg
          clear h
          have HE : Hid (Wayafter I w F (.pointer (some pa)) A rd k false R (rd + (t.ht : Int)) r b U (.bool o.isSome) (.int .u32 ((A.nd i2).right : Int)) (.int .i64 ((n + 1 : Nat) : Int)) w3) := ⟨_, n + 1, r2, rd1 + 1, o, rfl, rfl, rfl, HSR.out, hg, by have := HR1.out; omega, HR1.out.2.2, HNR.out, HB3.out⟩
          generalize o.isSome = ob at HE ⊢
          clear hg HX HB3 HEN
          go_wp2_with fail
          exact ⟨by rw [show ((n : Int) + 1) = ((n + 1 : Nat) : Int) by omega]; exact HE.out, by simp [intOf]; omega⟩
        · have q1 : decide ((A.nd i2).key < k) = false := decide_eq_false (by omega)
          have q2 : decide ((A.nd i2).key > k) = false := decide_eq_false (by omega)
          have q3 : decide (k < (A.nd i2).key) = false := decide_eq_false (by omega)
          have q4 : ((A.nd i2).key == k) = true := by simp; omega
          rw [if_pos (by omega)] at hg
          clear h
          have HE : Hid (Wayafter I w F (.pointer (some pa)) A rd k false R (rd + (t.ht : Int)) r b U (.bool o.isSome) (.int .u32 ((A.nd i2).right : Int)) (.int .i64 ((n + 1 : Nat) : Int)) w3) := ⟨_, n + 1, r2, rd1 + 1, o, rfl, rfl, rfl, HSR.out, hg, by have := HR1.out; omega, HR1.out.2.2, HNR.out, HB3.out⟩
          generalize o.isSome = ob at HE ⊢
          clear hg HX HB3 HEN
          go_wp2_with fail
          exact ⟨by rw [show ((n : Int) + 1) = ((n + 1 : Nat) : Int) by omega]; exact HE.out, by simp [intOf]; omega⟩
        · have q1 : decide ((A.nd i2).key < k) = false := decide_eq_false (by omega)
          have q2 : decide ((A.nd i2).key > k) = true := decide_eq_true (by omega)
          have q3 : decide (k < (A.nd i2).key) = true := decide_eq_true (by omega)
          have q4 : ((A.nd i2).key == k) = false := by simp; omega
          rw [if_neg (by omega)] at hg
          clear h
          have HG := Lib.hid hg
          clear hg
          go_wp2_with fail
          refine HEN.out.mono ?_
          rintro e w4 ⟨rfl, hb4⟩
          have hx4 := (hb4.block g HGL.out.2).trans HX.out
          have hB4 := HB3.out.calm hb4
          clear x0 x1 x2 x3 x4 x5 x6 x7 hb4
          have x2 : w4.cell? ⟨g, 2, none⟩ = some (.int .u32 ((A.nd i2).left : Int)) := by rw [cell_of_row _ _ _ _ _ _ hx4]; rfl
          have x3 : w4.cell? ⟨g, 3, none⟩ = some (.int .u32 ((A.nd i2).right : Int)) := by rw [cell_of_row _ _ _ _ _ _ hx4]; rfl
          obtain ⟨c0, c1⟩ := two_ofE hB4.hb
          have f0 := frozen_of_row _ _ 0 _ _ hB4.hb
          have f1 := frozen_of_row _ _ 1 _ _ hB4.hb
          have hgne : g ≠ b := by have := HGL.out; omega
          have hgne2 : b ≠ g := by have := HGL.out; omega
          obtain ⟨X, hX⟩ : ∃ X, o.elim (0 : Int) (·.key) = X := ⟨_, rfl⟩
          obtain ⟨Y, hY⟩ : ∃ Y, o.elim (0 : Int) (·.val) = Y := ⟨_, rfl⟩
          rw [hX] at c0
          rw [hY] at c1
          have HE : Hid (Wayafter I w F (.pointer (some pa)) A rd k false R (rd + (t.ht : Int)) r b U (.bool true) (.int .u32 ((A.nd i2).left : Int)) (.int .i64 ((n + 1 : Nat) : Int)) ((w4.setCell ⟨b, 0, none⟩ (.int .i64 (A.nd i2).key)).setCell ⟨b, 1, none⟩ (.int .i64 (A.nd i2).val))) := ⟨_, n + 1, l2, rd1 + 1, some (ndE (A.nd i2)), rfl, rfl, rfl, HSL.out, HG.out, by have := HR1.out; omega, HR1.out.2.1, HNL.out, hB4.put (ndE (A.nd i2))⟩
          clear hx4 hB4 hX hY HX HB3 HEN HG
          go_wp2_with fail
          exact ⟨by rw [show ((n : Int) + 1) = ((n + 1 : Nat) : Int) by omega]; exact HE.out, by simp [intOf]; omega⟩
end Go.Proofs.Ytcdfgnbdbmmcpaa
