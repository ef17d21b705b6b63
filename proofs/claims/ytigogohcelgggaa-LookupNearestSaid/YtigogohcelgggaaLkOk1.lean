/- The program's Get keeps its contract; an arena that is read inside a call; a bound on the length of a way. -/
import Derived.Test.YtigogohcelgggaaNear2
import Derived.Test.YtigogohcelgggaaOrdAb
import Derived.Test.YtigogohcelgggaaSlotsAid
import Derived.OwnWalk
import Derived.Deep.DeepCutAuto
set_option linter.unusedVariables false
set_option linter.unusedSimpArgs false
namespace Go.Proofs.Ytigogohcelgggaa
open Go.RowKit
/-- what lay there and is none of the arena's -/
def OldG (w : World) (F : Nat → Prop) (k : Nat) : Prop := k < w.heap.size ∧ ¬ F k
/-- inside a call that began in w: the arena, what lay there, and boxes X -/
structure In (I : AImpl) (w : World) (F : Nat → Prop) (p : Value) (A : Ar) (rd : Int) (X : Nat → Prop) (wr : World) : Prop where
  mr : MR I 0 w wr p A rd (fun k => OldG w F k ∨ X k)
  kp : Keeps (OldG w F) w wr
section
variable {I : AImpl} {w wr wx : World} {F : Nat → Prop} {p : Value} {A : Ar} {rd : Int} {X : Nat → Prop}
theorem In.start (h : I.Is w p A rd F) : In I w F p A rd (fun _ => False) w :=
  ⟨⟨⟨F, h, fun _ _ => Nat.zero_le _, fun k hk => by (rcases hk with hk | hk; exact hk; exact hk.elim)⟩, Below.refl _ _, Nat.zero_le _⟩, fun _ _ => rfl⟩
theorem In.calm (h : In I w F p A rd X wr) (hb : Below wr.heap.size wr wx) : In I w F p A rd X wx := ⟨h.mr.calm hb, fun k hk => (h.mr.keeps hb k (.inl hk)).trans (h.kp k hk)⟩
theorem In.keeps (h : In I w F p A rd X wr) (hb : Below wr.heap.size wr wx) : Keeps X wr wx := fun k hk => h.mr.keeps hb k (.inr hk)
theorem In.alloc (h : In I w F p A rd X wr) (o : Obj) : In I w F p A rd (fun k => X k ∨ k = wr.heap.size) (wr.alloc o) :=
  ⟨(h.mr.alloc o).less fun k hk => by (rcases hk with hk | hk | hk; exact .inl (.inl hk); exact .inl (.inr hk); exact .inr hk), (h.calm (below_new7 wr o)).kp⟩
theorem In.less {Y : Nat → Prop} (h : In I w F p A rd X wr) (hY : ∀ k, Y k → X k) : In I w F p A rd Y wr := ⟨h.mr.less fun k hk => hk.imp_right (hY k), h.kp⟩
theorem In.node (h : In I w F p A rd X wr) (h0 : 0 ≤ rd) (h1 : rd ≤ 4398046511104) {i : Nat} (hi : i < 4294967296) (hon : A.σ.on i = true) :
    Calls Try.prog 30 #[p, .int .u32 (i : Int)] wr fun e w' => e = .returned (.tuple #[.agg (ndRow (A.nd i)), .bool true]) ∧ In I w F p A (rd + 1) X w' ∧ Keeps X wr w' := by
  obtain ⟨F1, f1, f2, f3⟩ := h.mr.has
  refine (I.node p A rd F1 i wr f1 h0 (by omega) hi).mono ?_
  rintro e w1 ⟨F', hal, _, h6⟩
  obtain ⟨rfl, h7⟩ := h6 hon
  have hst := h.mr.step f2 f3 hal h7
  exact ⟨rfl, ⟨hst.1, fun k hk => (hst.2 k (.inl hk)).trans (h.kp k hk)⟩, fun k hk => hst.2 k (.inr hk)⟩
theorem In.off (h : In I w F p A rd X wr) (h0 : 0 ≤ rd) (h1 : rd ≤ 4398046511104) :
    Calls Try.prog 30 #[p, .int .u32 0] wr fun e w' => e = .returned (.tuple #[.agg (ndRow Nd.zero), .bool false]) ∧ In I w F p A rd X w' ∧ Keeps X wr w' := by
  obtain ⟨F1, f1, f2, f3⟩ := h.mr.has
  have hon : A.σ.on 0 = false := by
    cases hc : A.σ.on 0 with
    | false => rfl
    | true => have := (I.ok f1).on 0 hc; omega
  refine (I.node p A rd F1 0 wr f1 h0 (by omega) (by omega)).mono ?_
  rintro e w1 ⟨F', hal, h6, _⟩
  obtain ⟨rfl, h7⟩ := h6 hon
  have hst := h.mr.step f2 f3 hal h7
  exact ⟨rfl, ⟨hst.1, fun k hk => (hst.2 k (.inl hk)).trans (h.kp k hk)⟩, fun k hk => hst.2 k (.inr hk)⟩
theorem In.ends {rd0 bd : Int} {v : Value} (h : In I w F p A rd X wr) (h0 : rd0 ≤ rd) (h1 : rd ≤ rd0 + bd) : ReadsTo I p A rd0 F bd v w (.returned v) wr := by
  obtain ⟨F', f1, f2, f3⟩ := h.mr.has
  refine ⟨F', rd, rfl, ⟨h.mr.below.os, h.mr.below.tape, h.mr.below.output, h.mr.below.size, fun k hlt hF => h.kp k ⟨hlt, hF⟩, fun k hF' => ?_⟩, f1, h0, h1⟩
  by_cases hlt : k < w.heap.size
  · by_cases hF : F k
    · exact .inl hF
    · exact absurd hF' (f3 k (.inl ⟨hlt, hF⟩)).2
  · exact .inr (by omega)
end
theorem TreeAt.bound {A : Ar} {i : Nat} {t : Tr} {l : List En} (h : TreeAt A i t l) : (t.ht : Int) ≤ mostI l.length ∧ t.ht ≤ 65536 := by
  obtain ⟨held, hv⟩ := h.inv
  have h1 := h.sub.ht_cap hv.ok h.agg
  have h2 := hv.ok.cap2
  have h3 : l.length ≤ 2147483647 := by
    rw [← h.size]
    have := h.sub.size h.agg
    cases h.sub with
    | nil => simp [Tr.size]
    | node i l r h0 hon _ _ =>
      have h4 := (h.agg.size i hon).2
      unfold Ar.sz at this
      rw [if_neg h0] at this
      omega
  have h4 := h.ht h3
  unfold mostI
  exact ⟨by omega, by omega⟩
theorem sz_less {A : Ar} (ha : A.Agg) {i : Nat} {u : Tr} (h : Sub A i u) : (A.sz i).toNat = u.size := by rw [h.size ha]; omega
/-- a tree has no more nodes than slots are allocated -/
theorem TreeAt.held {A : Ar} {i : Nat} {t : Tr} {l : List En} (h : TreeAt A i t l) : t.size + A.σ.free.length ≤ A.σ.cap := by
  obtain ⟨held, hv⟩ := h.inv
  have hu : Asc none (t.keys A.nd) := by rw [Tr.ents_keys, h.ents]; exact up_asc l none h.up (fun k hk => by cases hk)
  have h1 := ord_above hv.ok h.sub ((ordT_spec A.nd t none).1 hu)
  have h2 := above_free hv.ok
  omega
theorem longest_any (I : AImpl) {p : Value} {A : Ar} {rd : Int} {F : Nat → Prop} {U : Nat} (w : World) (hI : I.Is w p A rd F) (hU : U + A.σ.free.length = A.σ.cap) :
    Calls Try.prog 38 #[p] w (Calm w (.int .i64 (U : Int))) := by
  obtain ⟨pa, rfl⟩ := I.ptr hI
  have hcap := (I.ok hI).cap2
  have hw64 : IntKind.i64.wrap ((A.σ.cap : Int) - (A.σ.free.length : Int)) = (U : Int) := by rw [IntKind.wrap_i64]; omega
  have HCP : Hid (∀ w', Below w.heap.size w w' → Calls Try.prog 54 #[.pointer (some pa)] w' (Quiet w' (.int .i64 (A.σ.cap : Int)))) := fun w' hb => I.capacity _ _ _ _ _ (I.below hI hb)
  have HFR : Hid (∀ w', Below w.heap.size w w' → Calls Try.prog 55 #[.pointer (some pa)] w' (Quiet w' (.int .i64 (A.σ.free.length : Int)))) := fun w' hb => I.freeN _ _ _ _ _ (I.below hI hb)
  clear hI hU hcap
  go_enter Try.func38, Try.ntmps38
  go_wp2_with fail
  refine (HCP.out w (Below.refl _ _)).mono ?_
  rintro e w2 ⟨rfl, n2, hn2⟩
  have hb2 : Below w.heap.size w w2 := by rw [hn2]; exact below_drewN (Below.refl _ _) n2
  clear hn2
  go_wp2_with fail
  refine (HFR.out w2 hb2).mono ?_
  rintro e w3 ⟨rfl, n3, hn3⟩
  have hb3 : Below w.heap.size w w3 := hb2.trans ((by rw [hn3]; exact below_drewN (Below.refl _ _) n3 : Below w2.heap.size w2 w3).mono hb2.size)
  have HB3 := Lib.hid hb3
  clear hn3 hb2 hb3 HCP HFR
  go_wp2_with fail
  go_ret
  exact ⟨rfl, HB3.out⟩
/-- the child below which a key can be -/
def twd (x : Nd) (k : Int) : Nat := if k < x.key then x.left else x.right
set_option maxRecDepth 100000 in
theorem towards_any (x : Nd) (k : Int) (w : World) : Calls Try.prog 39 #[.agg (ndRow x), .int .i64 k] w (Calm w (.int .u32 (twd x k : Int))) := by
  have hb := below_new7 w (Obj.cells (ndRow x) 55)
  have hbx := heap_alloc_new w (Obj.cells (ndRow x) 55)
  go_enter Try.func39, Try.ntmps39
  unfold ndRow
  go_upto_region 1 with fail
  rw [show #[Value.int .i64 x.key, .int .i64 x.val, .int .u32 (x.left : Int), .int .u32 (x.right : Int), .int .i64 x.size, .int .i64 x.sum, .int .i64 x.mn, .int .i64 x.mx] = ndRow x from rfl]
  generalize w.alloc (Obj.cells (ndRow x) 55) = w2 at hb hbx ⊢
  generalize hg : w.heap.size = g at hb hbx ⊢
  have x0 : w2.cell? ⟨g, 0, none⟩ = some (.int .i64 x.key) := by rw [cell_of_row _ _ _ _ _ _ hbx]; rfl
  have x2 : w2.cell? ⟨g, 2, none⟩ = some (.int .u32 (x.left : Int)) := by rw [cell_of_row _ _ _ _ _ _ hbx]; rfl
  have x3 : w2.cell? ⟨g, 3, none⟩ = some (.int .u32 (x.right : Int)) := by rw [cell_of_row _ _ _ _ _ _ hbx]; rfl
  have HB := Lib.hid hb
  have HGG := Lib.hid hg
  clear hb hbx hg
  by_cases hkl : k < x.key
  · have hlt : decide (k < x.key) = true := decide_eq_true hkl
    have HE : Hid (Calm w (.int .u32 (twd x k : Int)) (.returned (.int .u32 (x.left : Int))) w2) := ⟨by rw [show twd x k = x.left from if_pos hkl], by rw [HGG.out]; exact HB.out⟩
    clear hkl
    go_wp2_with fail
    go_ret
    exact HE.out
  · have hlt : decide (k < x.key) = false := decide_eq_false hkl
    have HE : Hid (Calm w (.int .u32 (twd x k : Int)) (.returned (.int .u32 (x.right : Int))) w2) := ⟨by rw [show twd x k = x.right from if_neg hkl], by rw [HGG.out]; exact HB.out⟩
    clear hkl
    go_wp2_with fail
    go_ret
    exact HE.out
def WayM (I : AImpl) (w : World) (F : Nat → Prop) (p : Value) (A : Ar) (rd0 k : Int) (R : Option En) (top : Int) (U : Nat) (x c : Value) (wr : World) : Prop :=
  ∃ (i n : Nat) (u : Tr) (rd : Int), x = .int .u32 (i : Int) ∧ c = .int .i64 (n : Int) ∧ Sub A i u ∧ getT A.nd k u = R ∧ rd0 ≤ rd ∧ rd + (u.ht : Int) ≤ top ∧ n + u.size ≤ U ∧ In I w F p A rd (fun _ => False) wr
set_option maxHeartbeats 4000000 in
set_option maxRecDepth 100000 in
theorem getP_any (I : AImpl) {p : Value} {A : Ar} {rd : Int} {F : Nat → Prop} {i : Nat} {t : Tr} {l : List En} (k : Int) (w : World) (hI : I.Is w p A rd F) (hT : TreeAt A i t l) (h0 : 0 ≤ rd) (h1 : rd ≤ 1099511627776) (hk : i64R k) :
    Calls Try.prog 12 #[p, .int .u32 (i : Int), .int .i64 k] w (ReadsTo I p A rd F (mostI l.length) (.tuple #[.int .i64 ((getE l k).elim 0 (·.val)), .bool (getE l k).isSome]) w) := by
  obtain ⟨pa, rfl⟩ := I.ptr hI
  have hb := hT.bound
  have hg : getT A.nd k t = getE l k := by rw [getT_spec A.nd k t (by rw [hT.ents]; exact hT.up), hT.ents]
  obtain ⟨R, hR⟩ : ∃ R, getE l k = R := ⟨_, rfl⟩
  rw [hR] at hg ⊢
  obtain ⟨M, hM⟩ : ∃ M, mostI l.length = M := ⟨_, rfl⟩
  rw [hM] at hb ⊢
  obtain ⟨held, hv⟩ := hT.inv
  have hcap := hv.ok.cap2
  have hhd := hT.held
  obtain ⟨U, hU⟩ : ∃ U, U + A.σ.free.length = A.σ.cap := ⟨A.σ.cap - A.σ.free.length, by omega⟩
  have HLP := Lib.hid (longest_any I w hI hU)
  have HU : Hid (U ≤ 65536 ∧ t.size ≤ U) := ⟨by omega, by omega⟩
  have HAG := Lib.hid hT.agg
  have HOK := Lib.hid hv.ok
  have HRD : Hid (0 ≤ rd ∧ rd ≤ 1099511627776 ∧ (t.ht : Int) ≤ M ∧ t.ht ≤ 65536) := ⟨h0, h1, hb.1, hb.2⟩
  have HW0 : Hid (∀ w', Below w.heap.size w w' → WayM I w F (.pointer (some pa)) A rd k R (rd + (t.ht : Int)) U (.int .u32 (i : Int)) (.int .i64 0) w') := fun w' hb' => ⟨i, 0, t, rd, rfl, rfl, hT.sub, hg, Int.le_refl _, Int.le_refl _, by omega, (In.start hI).calm hb'⟩
  clear hI hT h0 h1 hk hb hg hR hM hv hcap hhd hU
  go_enter Try.func12, Try.ntmps12
  go_wp2_with fail
  refine HLP.out.mono ?_
  rintro e w0 ⟨rfl, hb0⟩
  have HW1 := Lib.hid (HW0.out w0 hb0)
  clear hb0 HW0 HLP
  go_wp2_with fail
  go_loopw [8, 14] (fun x c wr => WayM I w F (.pointer (some pa)) A rd k R (rd + (t.ht : Int)) U x c wr) (fun _ c _ => U - (intOf c).toNat)
  case atStart => exact HW1.out
  case round =>
    clear HW1
    obtain ⟨i, n, u, rd1, rfl, rfl, hu, hg, hr0, hr1, hn, hin⟩ := hrel
    rcases Nat.lt_or_ge n U with hnu | hnu
    rotate_left
    · have hnu2 : decide ((n : Int) < (U : Int)) = false := decide_eq_false (by omega)
      have hu0 : u = .nil := by
        cases u with
        | nil => rfl
        | node i l r =>
          have : (Tr.node i l r).size = l.size + r.size + 1 := rfl
          omega
      subst hu0
      have HE : Hid (ReadsTo I (.pointer (some pa)) A rd F M (.tuple #[.int .i64 (R.elim 0 (·.val)), .bool R.isSome]) w (.returned (.tuple #[.int .i64 0, .bool false])) wr) := by
        rw [show R = none from hg.symm]
        exact hin.ends hr0 (by have := HRD.out; omega)
      have hUn : ¬ n < U := Nat.not_lt.2 hnu
      clear hu hg hr0 hr1 hin hn hnu
      go_wp2_with fail
      go_ret2
      exact HE.out
    have hnu2 : decide ((n : Int) < (U : Int)) = true := decide_eq_true (by omega)
    have hnu3 : (n : Int) < (U : Int) := by omega
    have hU4 : (U : Int) ≤ 65536 := by have := HU.out.1; omega
    have hn0 : (0 : Int) ≤ (n : Int) := by omega
    cases u with
    | nil =>
      obtain rfl : i = 0 := by
        cases hu with
        | nil => rfl
      have hRn : R = none := hg.symm
      subst hRn
      have HR1 : Hid (rd ≤ rd1 ∧ rd1 ≤ rd + (t.ht : Int)) := ⟨hr0, by have : (Tr.nil.ht : Nat) = 0 := rfl; omega⟩
      have HIN := Lib.hid hin
      clear hu hg hr0 hr1 hin hn
      go_wp2_with fail
      refine (HIN.out.off (by have := HR1.out; have := HRD.out; omega) (by have := HR1.out; have := HRD.out; omega)).mono ?_
      rintro e w1 ⟨rfl, hin1, -⟩
      have HIN1 := Lib.hid (hin1.calm (below_new7 w1 (Obj.cells (ndRow Nd.zero) 55)))
      clear hin1 HIN
      unfold ndRow
      go_upto_region 5 with fail
      rw [show #[Value.int .i64 Nd.zero.key, .int .i64 Nd.zero.val, .int .u32 (Nd.zero.left : Int), .int .u32 (Nd.zero.right : Int), .int .i64 Nd.zero.size, .int .i64 Nd.zero.sum, .int .i64 Nd.zero.mn, .int .i64 Nd.zero.mx] = ndRow Nd.zero from rfl]
      generalize w1.alloc (Obj.cells (ndRow Nd.zero) 55) = w2 at HIN1 ⊢
      have HE : Hid (ReadsTo I (.pointer (some pa)) A rd F M (.tuple #[.int .i64 ((none : Option En).elim 0 (·.val)), .bool (none : Option En).isSome]) w (.returned (.tuple #[.int .i64 0, .bool false])) w2) := HIN1.out.ends HR1.out.1 (by have := HR1.out; have := HRD.out; omega)
      clear HIN1
      go_wp2_with fail
      go_ret2
      exact HE.out
    | node i2 l2 r2 =>
      obtain ⟨rfl, h0, hon, hsl, hsr⟩ : i2 = i ∧ i ≠ 0 ∧ A.σ.on i = true ∧ Sub A (A.nd i).left l2 ∧ Sub A (A.nd i).right r2 := by
        cases hu with
        | node _ _ _ h1 h2 h3 h4 => exact ⟨rfl, h1, h2, h3, h4⟩
      have hi4 : i2 < 4294967296 := by have := HOK.out.on i2 hon; have := HOK.out.cap2; omega
      have hht : (Tr.node i2 l2 r2).ht = 1 + max l2.ht r2.ht := rfl
      rw [show (Tr.node i2 l2 r2).size = l2.size + r2.size + 1 from rfl] at hn
      have HSL := Lib.hid hsl
      have HSR := Lib.hid hsr
      have HON := Lib.hid hon
      have HI4 := Lib.hid hi4
      have HNN := Lib.hid hn
      have HR1 : Hid (rd ≤ rd1 ∧ rd1 + 1 + (l2.ht : Int) ≤ rd + (t.ht : Int) ∧ rd1 + 1 + (r2.ht : Int) ≤ rd + (t.ht : Int)) := ⟨hr0, by omega, by omega⟩
      have HIN := Lib.hid hin
      unfold getT at hg
      have HG := Lib.hid hg
      clear hu hg hr0 hr1 hin h0 hon hsl hsr hi4 hht hn
      go_wp2_with fail
      refine (HIN.out.node (by have := HR1.out; have := HRD.out; omega) (by have := HR1.out; have := HRD.out; omega) HI4.out HON.out).mono ?_
      rintro e w1 ⟨rfl, hin1, -⟩
      have HIN1 := Lib.hid hin1
      clear hin1 HIN
      unfold ndRow
      go_upto_region 5 with fail
      rw [show #[Value.int .i64 (A.nd i2).key, .int .i64 (A.nd i2).val, .int .u32 ((A.nd i2).left : Int), .int .u32 ((A.nd i2).right : Int), .int .i64 (A.nd i2).size, .int .i64 (A.nd i2).sum, .int .i64 (A.nd i2).mn, .int .i64 (A.nd i2).mx] = ndRow (A.nd i2) from rfl]
      have hin2 := HIN1.out.calm (below_new7 w1 (Obj.cells (ndRow (A.nd i2)) 55))
      have hbx := heap_alloc_new w1 (Obj.cells (ndRow (A.nd i2)) 55)
      generalize w1.alloc (Obj.cells (ndRow (A.nd i2)) 55) = w2 at hin2 hbx ⊢
      generalize w1.heap.size = g at hbx ⊢
      have x0 : w2.cell? ⟨g, 0, none⟩ = some (.int .i64 (A.nd i2).key) := by rw [cell_of_row _ _ _ _ _ _ hbx]; rfl
      have x1 : w2.cell? ⟨g, 1, none⟩ = some (.int .i64 (A.nd i2).val) := by rw [cell_of_row _ _ _ _ _ _ hbx]; rfl
      have x2 : w2.cell? ⟨g, 2, none⟩ = some (.int .u32 ((A.nd i2).left : Int)) := by rw [cell_of_row _ _ _ _ _ _ hbx]; rfl
      have x3 : w2.cell? ⟨g, 3, none⟩ = some (.int .u32 ((A.nd i2).right : Int)) := by rw [cell_of_row _ _ _ _ _ _ hbx]; rfl
      have x4 : w2.cell? ⟨g, 4, none⟩ = some (.int .i64 (A.nd i2).size) := by rw [cell_of_row _ _ _ _ _ _ hbx]; rfl
      have x5 : w2.cell? ⟨g, 5, none⟩ = some (.int .i64 (A.nd i2).sum) := by rw [cell_of_row _ _ _ _ _ _ hbx]; rfl
      have x6 : w2.cell? ⟨g, 6, none⟩ = some (.int .i64 (A.nd i2).mn) := by rw [cell_of_row _ _ _ _ _ _ hbx]; rfl
      have x7 : w2.cell? ⟨g, 7, none⟩ = some (.int .i64 (A.nd i2).mx) := by rw [cell_of_row _ _ _ _ _ _ hbx]; rfl
      have HIN2 := Lib.hid hin2
      clear hin2 hbx HIN1
      have hg := HG.out
      by_cases hke : k = (A.nd i2).key
      · have hlt : ((A.nd i2).key == k) = true := by rw [hke]; simp
        rw [if_pos hke] at hg
        have HE : Hid (ReadsTo I (.pointer (some pa)) A rd F M (.tuple #[.int .i64 (R.elim 0 (·.val)), .bool R.isSome]) w (.returned (.tuple #[.int .i64 (A.nd i2).val, .bool true])) w2) := by
          rw [← hg]
          exact HIN2.out.ends (by have := HR1.out; omega) (by have := HR1.out; have := HRD.out; omega)
        clear hke hg
        go_wp2_with fail
        go_ret2
        exact HE.out
      · have hlt : ((A.nd i2).key == k) = false := by simp; exact fun e => hke e.symm
        rw [if_neg hke] at hg
        have HT := Lib.hid (towards_any (A.nd i2) k w2)
        have HE : Hid (∀ w3, Below w2.heap.size w2 w3 → WayM I w F (.pointer (some pa)) A rd k R (rd + (t.ht : Int)) U (.int .u32 (twd (A.nd i2) k : Int)) (.int .i64 ((n + 1 : Nat) : Int)) w3) := fun w3 hb3 => by
          have := HNN.out
          by_cases hkl : k < (A.nd i2).key
          · rw [if_pos hkl] at hg
            rw [show twd (A.nd i2) k = (A.nd i2).left from if_pos hkl]
            exact ⟨_, n + 1, l2, rd1 + 1, rfl, rfl, HSL.out, hg, by have := HR1.out; omega, HR1.out.2.1, by omega, HIN2.out.calm hb3⟩
          · rw [if_neg hkl] at hg
            rw [show twd (A.nd i2) k = (A.nd i2).right from if_neg hkl]
            exact ⟨_, n + 1, r2, rd1 + 1, rfl, rfl, HSR.out, hg, by have := HR1.out; omega, HR1.out.2.2, by omega, HIN2.out.calm hb3⟩
        clear hke hg
        go_wp2_with fail
        refine HT.out.mono ?_
        rintro e w3 ⟨rfl, hb3⟩
        have HE3 := Lib.hid (HE.out w3 hb3)
        clear hb3 HE HT
        go_wp2_with fail
        exact ⟨by rw [show ((n : Int) + 1) = ((n + 1 : Nat) : Int) by omega]; exact HE3.out, by simp [intOf]; omega⟩
end Go.Proofs.Ytigogohcelgggaa
