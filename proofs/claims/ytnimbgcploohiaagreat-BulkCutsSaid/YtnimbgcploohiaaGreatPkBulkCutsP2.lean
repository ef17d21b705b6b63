/- Of the proof of PkBulkCutsP: RefShape, RefTreeIs, JnAw, RefKept, SameSlots, SameRows. -/
import Derived.Test.YtnimbgcploohiaaGreatPk1
import Derived.Test.YtnimbgcploohiaaGreatPk2
import Derived.Test.YtnimbgcploohiaaGreatPk3
import Derived.Test.YtnimbgcploohiaaGreatPk4
import Derived.Test.YtnimbgcploohiaaGreatPk5
import Derived.Test.YtnimbgcploohiaaGreatPk6
import Derived.Test.YtnimbgcploohiaaGreatPkBulkCutsP1
import Derived.Deep.DeepCutAuto
import Derived.Deep.RegionHeld3
import Derived.Deep.QuietTactic
set_option linter.unusedVariables false
set_option linter.unusedSimpArgs false
namespace Go.Proofs.YtnimbgcploohiaaGreat
open Go.RowKit
/-- the traversal's variable -/
structure WBox (w : World) (q : Nat) (a b : Option Addr) (N c m d : Nat) (s : Option Int) (mo : Int) : Prop where
  box : w.heap[q]? = some (.cells #[.slice a N c, .slice b m d, .int .i64 (s.getD 0), .bool s.isSome, .int .i64 mo] 126 (0, 0))
theorem WBox.cells {w : World} {q : Nat} {a b : Option Addr} {N c m d : Nat} {s : Option Int} {mo : Int} (h : WBox w q a b N c m d s mo) :
    w.cell? ⟨q, 0, none⟩ = some (.slice a N c) ∧ w.cell? ⟨q, 1, none⟩ = some (.slice b m d) ∧ w.cell? ⟨q, 2, none⟩ = some (.int .i64 (s.getD 0)) ∧ w.cell? ⟨q, 3, none⟩ = some (.bool s.isSome) ∧ w.cell? ⟨q, 4, none⟩ = some (.int .i64 mo) := by
  refine ⟨?_, ?_, ?_, ?_, ?_⟩ <;> (rw [cell_of_row _ _ _ _ _ _ h.box]; rfl)
theorem WBox.frozen {w : World} {q : Nat} {a b : Option Addr} {N c m d : Nat} {s : Option Int} {mo : Int} (h : WBox w q a b N c m d s mo) (j : Nat) : w.frozen? ⟨q, j, none⟩ = false := frozen_of_row _ _ _ _ _ h.box
theorem WBox.lt {w : World} {q : Nat} {a b : Option Addr} {N c m d : Nat} {s : Option Int} {mo : Int} (h : WBox w q a b N c m d s mo) : q < w.heap.size := (Array.getElem?_eq_some_iff.1 h.box).1
theorem WBox.below {w w' : World} {q : Nat} {a b : Option Addr} {N c m d : Nat} {s : Option Int} {mo : Int} (h : WBox w q a b N c m d s mo) (hb : Below w.heap.size w w') : WBox w' q a b N c m d s mo := ⟨(hb.block q h.lt).trans h.box⟩
theorem WBox.most {w : World} {q : Nat} {a b : Option Addr} {N c m d : Nat} {s : Option Int} {mo : Int} (h : WBox w q a b N c m d s mo) (x : Int) : WBox (w.setCell ⟨q, 4, none⟩ (.int .i64 x)) q a b N c m d s x := ⟨by rw [heap_setCell_same _ _ _ _ _ _ h.box]; rfl⟩
theorem WBox.next {w : World} {q : Nat} {a b : Option Addr} {N c m d : Nat} {s : Option Int} {mo : Int} (h : WBox w q a b N c m d s mo) (x : Int) : WBox ((w.setCell ⟨q, 2, none⟩ (.int .i64 x)).setCell ⟨q, 3, none⟩ (.bool true)) q a b N c m d (some x) mo := ⟨by
  have h1 : (w.setCell ⟨q, 2, none⟩ (.int .i64 x)).heap[q]? = some (.cells #[.slice a N c, .slice b m d, .int .i64 x, .bool s.isSome, .int .i64 mo] 126 (0, 0)) := by rw [heap_setCell_same _ _ _ _ _ _ h.box]; rfl
  rw [heap_setCell_same _ _ _ _ _ _ h1]; rfl⟩
structure OrdRes (A : Ar) (a b : Option Addr) (N c m d q : Nat) (t : Tr) (s : Option Int) (mo : Int) (w : World) (e : Ending) (w' : World) : Prop where
  but : But q w w'
  res : (∃ s' mo', e = .returned (.bool true) ∧ ordT A.nd t s = some s' ∧ WBox w' q a b N c m d s' mo' ∧ mo - (A.above s : Int) ≤ mo' - (A.above s' : Int) ∧ mo' ≤ mo) ∨ (e = .returned (.bool false) ∧ ordT A.nd t s = none)
def OrdSpec (A : Ar) (a b : Option Addr) (N c m d q : Nat) (i : Nat) (t : Tr) : Prop :=
  ∀ (s : Option Int) (mo : Int) (w : World), WBox w q a b N c m d s mo → SlotsAt w a N A.sl → (A.above s : Int) + (t.ht : Int) ≤ mo → mo ≤ 1000000 →
    Calls Tryz.prog 88 #[.pointer (some ⟨q, 0, none⟩), .int .u32 (i : Int)] w (OrdRes A a b N c m d q t s mo w)
set_option maxHeartbeats 4000000 in
set_option maxRecDepth 100000 in
theorem ordered_node {A : Ar} {a b : Option Addr} {N c m d q i : Nat} {l r : Tr} (hok : A.σ.Ok) (hN : A.σ.cap = N) (hq : ∀ b off, a = some ⟨b, off, none⟩ → b ≠ q) (h0 : i ≠ 0) (h1 : A.σ.on i = true)
    (ihl : OrdSpec A a b N c m d q (A.nd i).left l) (ihr : OrdSpec A a b N c m d q (A.nd i).right r) : OrdSpec A a b N c m d q i (.node i l r) := by
  intro s mo w hw hS hmo hm1
  have hi := hok.on i h1
  have hcap := hok.cap2
  have hht : (((Tr.node i l r).ht : Nat) : Int) = 1 + ((max l.ht r.ht : Nat) : Int) := by
    have e : (Tr.node i l r).ht = 1 + max l.ht r.ht := rfl
    omega
  have HHT := Lib.hid hht
  have HMO := Lib.hid hmo
  have hne0 : ((i : Int) == 0) = false := by simp; omega
  have hmo1 : (1 : Int) ≤ mo := by omega
  have hmb : (mo == 0) = false := by simp; omega
  have hmw : IntKind.i64.wrap (mo - 1) = mo - 1 := by rw [IntKind.wrap_i64]; omega
  obtain ⟨hc0, hc1, hc2, hc3, hc4⟩ := hw.cells
  have hf4 := hw.frozen 4
  have hw1 := hw.most (mo - 1)
  have hb1 : But q w (w.setCell ⟨q, 4, none⟩ (.int .i64 (mo - 1))) := But.set w 4 _
  have hS1 := hS.but hb1 hq
  have HOK := Lib.hid hok
  have HN := Lib.hid hN
  have HQ := Lib.hid hq
  have HW1 := Lib.hid hw1
  have HB1 := Lib.hid hb1
  have HS1 := Lib.hid hS1
  have HL := Lib.hid ihl
  have HR := Lib.hid ihr
  have HON := Lib.hid h1
  have hi32 : i < 4294967296 := by omega
  have HI := Lib.hid hi32
  have HM1 := Lib.hid hm1
  have hin : (Tryz.prog.info? 65).map (·.size) = some 8 := by kernel_rfl
  have HIN := Lib.hid hin
  have hz : ∀ w, (zeroValue 65).run Tryz.prog w = .ok (.agg (ndRow Nd.zero)) w := by
    have h : (Tryz.prog.info? 65).map (·.zero) = some (some (.agg (ndRow Nd.zero))) := by kernel_rfl
    intro w
    cases hi : Tryz.prog.info? 65 with
    | none => simp [hi] at h
    | some i =>
      have hz : i.zero = some (.agg (ndRow Nd.zero)) := by simpa [hi] using h
      simp [zeroValue, typeInfo, hi, hz]
  clear hw hS ihl ihr hok hN hq hw1 hb1 hS1 h1 hht hmo hi hcap hi32 hin hm1
  go_enter Tryz.func88, Tryz.ntmps88
  go_upto_region 6 with fail
  generalize w.setCell ⟨q, 4, none⟩ (.int .i64 (mo - 1)) = w1 at HW1 HB1 HS1 ⊢
  clear hc0 hc1 hc2 hc3 hc4 hf4
  obtain ⟨hc0, hc1, _⟩ := HW1.out.cells
  go_wp2_with fail
  refine (refNode_any (b := b) (m := m) (d := d) (c := c) HS1.out HOK.out HN.out HI.out).mono ?_
  rintro e w2 ⟨rfl, hb2⟩
  have hnz : A.nz i = A.nd i := by unfold Ar.nz; rw [HON.out]; rfl
  rw [hnz]
  clear hnz hc0 hc1
  have HW2 : Hid (WBox w2 q a b N c m d s (mo - 1)) := HW1.out.below hb2
  have HB2 : Hid (But q w w2) := HB1.out.trans (.of_below hb2)
  have HS2 : Hid (SlotsAt w2 a N A.sl) := HS1.out.below hb2
  have hqp : q < w2.heap.size := HW2.out.lt
  have hrz := heap_alloc_new w2 (Obj.cells (ndRow Nd.zero) 65)
  have HRZ := Lib.hid hrz
  have hba : Below w2.heap.size w2 ((w2.alloc (Obj.cells (ndRow Nd.zero) 65)).setRow w2.heap.size (ndRow (A.nd i))) := below_setRow ((Below.refl _ _).alloc (Nat.le_refl _) _) (Nat.le_refl _) _
  have HW3 : Hid (WBox ((w2.alloc (Obj.cells (ndRow Nd.zero) 65)).setRow w2.heap.size (ndRow (A.nd i))) q a b N c m d s (mo - 1)) := HW2.out.below hba
  have HB3 : Hid (But q w ((w2.alloc (Obj.cells (ndRow Nd.zero) 65)).setRow w2.heap.size (ndRow (A.nd i)))) := HB2.out.trans (.of_below hba)
  have HS3 : Hid (SlotsAt ((w2.alloc (Obj.cells (ndRow Nd.zero) 65)).setRow w2.heap.size (ndRow (A.nd i))) a N A.sl) := HS2.out.below hba
  have HP3 : Hid (((w2.alloc (Obj.cells (ndRow Nd.zero) 65)).setRow w2.heap.size (ndRow (A.nd i))).heap[w2.heap.size]? = some (.cells (ndRow (A.nd i)) 65 (0, 0))) := setRow_heap _ _ _ _ _ _ hrz
  have HQP : Hid (w2.heap.size ≠ q) := by (show w2.heap.size ≠ q; omega)
  have hk := HS2.out.kid (i - 1) (by have := HOK.out.on i HON.out; have := HN.out; omega)
  have ei : A.sl (i - 1) = ⟨A.σ.on i, A.cnt i, A.σ.gen i, A.nd i⟩ := by unfold Ar.sl; rw [show i - 1 + 1 = i by omega]
  rw [ei] at hk
  have HK : Hid ((A.nd i).left < 4294967296 ∧ (A.nd i).right < 4294967296) := hk
  clear hba hrz hqp HW1 HB1 HS1 HW2 HB2 HS2 hb2 hk ei
  go_upto_region 7 with (refine wpList_store_row rfl 65 (.tmp 5) (.tmp 25) rfl w2.heap.size (ndRow (A.nd i)) rfl rfl 65 _ HRZ.out HIN.out rfl (ndRow_one _) ?_)
  generalize (w2.alloc (Obj.cells (ndRow Nd.zero) 65)).setRow w2.heap.size (ndRow (A.nd i)) = w3 at HW3 HB3 HS3 HP3 ⊢
  generalize w2.heap.size = p at HP3 HQP ⊢
  clear HRZ hz HIN
  have hx0 : w3.cell? ⟨p, 0, none⟩ = some (.int .i64 (A.nd i).key) := by rw [cell_of_row _ _ _ _ _ _ HP3.out]; rfl
  have hx2 : w3.cell? ⟨p, 2, none⟩ = some (.int .u32 ((A.nd i).left : Int)) := by rw [cell_of_row _ _ _ _ _ _ HP3.out]; rfl
  go_wp2_with fail
  have hl0 : (A.above s : Int) + (l.ht : Int) ≤ mo - 1 := by have := HMO.out; have := HHT.out; have := Nat.le_max_left l.ht r.ht; omega
  refine (HL.out s (mo - 1) w3 HW3.out HS3.out hl0 (by have := HM1.out; omega)).mono ?_
  rintro e w4 ⟨hb4, hres⟩
  clear hx0 hx2 hl0
  have HB4 : Hid (But q w w4) := HB3.out.trans hb4
  have HP4 : Hid (w4.heap[p]? = some (.cells (ndRow (A.nd i)) 65 (0, 0))) := hb4.row HP3.out HQP.out
  have HS4 : Hid (SlotsAt w4 a N A.sl) := HS3.out.but hb4 HQ.out
  have HOT : Hid (ordT A.nd (.node i l r) s = match ordT A.nd l s with | none => none | some none => ordT A.nd r (some (A.nd i).key) | some (some k) => if (A.nd i).key ≤ k then none else ordT A.nd r (some (A.nd i).key)) := rfl
  clear HB3 HP3 HS3 HW3 hb4
  rcases hres with ⟨s1, mo1, rfl, ho1, hw4, hk1, hk2⟩ | ⟨rfl, ho1⟩
  · have HW4 := Lib.hid hw4
    have HO1 := Lib.hid ho1
    have HK1 := Lib.hid hk1
    have HK2 := Lib.hid hk2
    clear hw4 ho1 hk1 hk2
    obtain ⟨hc0, hc1, hc2, hc3, hc4⟩ := HW4.out.cells
    have hf2 := HW4.out.frozen 2
    have hf3 := HW4.out.frozen 3
    have hx0 : w4.cell? ⟨p, 0, none⟩ = some (.int .i64 (A.nd i).key) := by rw [cell_of_row _ _ _ _ _ _ HP4.out]; rfl
    have hx3 : w4.cell? ⟨p, 3, none⟩ = some (.int .u32 ((A.nd i).right : Int)) := by rw [cell_of_row _ _ _ _ _ _ HP4.out]; rfl
    have hcase : (s1 = none ∨ ∃ k, s1 = some k ∧ k < (A.nd i).key) ∨ ∃ k, s1 = some k ∧ (A.nd i).key ≤ k := by
      cases s1 with
      | none => exact .inl (.inl rfl)
      | some k =>
        rcases Int.lt_or_le k (A.nd i).key with h | h
        · exact .inl (.inr ⟨k, rfl, h⟩)
        · exact .inr ⟨k, rfl, h⟩
    rcases hcase with hgo | ⟨k, rfl, hle⟩
    · have HF : Hid (ordT A.nd (.node i l r) s = ordT A.nd r (some (A.nd i).key)) := by
        have h1 := HOT.out
        rw [HO1.out] at h1
        rcases hgo with rfl | ⟨k, rfl, hlt⟩
        · exact h1
        · simp only [if_neg (show ¬ (A.nd i).key ≤ k by omega)] at h1
          exact h1
      have HAB : Hid (A.above (some (A.nd i).key) + 1 ≤ A.above s1) := Ar.above_step HOK.out HON.out fun k hk => by
        rcases hgo with rfl | ⟨k', rfl, hlt⟩
        · cases hk
        · cases hk; exact hlt
      have hguard : s1.isSome = false ∨ (s1.isSome = true ∧ decide ((A.nd i).key ≤ s1.getD 0) = false) := by
        rcases hgo with rfl | ⟨k', rfl, hlt⟩
        · exact .inl rfl
        · exact .inr ⟨rfl, decide_eq_false (by show ¬ (A.nd i).key ≤ k'; omega)⟩
      clear hgo
      generalize s1.isSome = bS at hc3 hguard
      generalize s1.getD 0 = kS at hc2 hguard
      rcases hguard with hg1 | ⟨hg1, hg2⟩
      all_goals
        subst hg1
        go_upto_region 9 with fail
        go_quiet (fail)
        rename Nat => dd
        have hbd : Below w4.heap.size w4 (w4.drewN dd) := below_drewN (Below.refl _ _) dd
        have HW5 : Hid (WBox (((w4.drewN dd).setCell ⟨q, 2, none⟩ (.int .i64 (A.nd i).key)).setCell ⟨q, 3, none⟩ (.bool true)) q a b N c m d (some (A.nd i).key) mo1) := (HW4.out.below hbd).next _
        have HB5 : Hid (But q w (((w4.drewN dd).setCell ⟨q, 2, none⟩ (.int .i64 (A.nd i).key)).setCell ⟨q, 3, none⟩ (.bool true))) := ((HB4.out.trans (.of_below hbd)).trans (.set _ 2 _)).trans (.set _ 3 _)
        have HP5 : Hid ((((w4.drewN dd).setCell ⟨q, 2, none⟩ (.int .i64 (A.nd i).key)).setCell ⟨q, 3, none⟩ (.bool true)).heap[p]? = some (.cells (ndRow (A.nd i)) 65 (0, 0))) := (((But.of_below (q := q) hbd).trans (.set _ 2 _)).trans (.set _ 3 _)).row HP4.out HQP.out
        have HS5 : Hid (SlotsAt (((w4.drewN dd).setCell ⟨q, 2, none⟩ (.int .i64 (A.nd i).key)).setCell ⟨q, 3, none⟩ (.bool true)) a N A.sl) := HS4.out.but (((But.of_below (q := q) hbd).trans (.set _ 2 _)).trans (.set _ 3 _)) HQ.out
        have e0 : (w4.drewN dd).cell? ⟨p, 0, none⟩ = some (.int .i64 (A.nd i).key) := hx0
        have e2 : (w4.drewN dd).cell? ⟨q, 2, none⟩ = some (.int .i64 kS) := hc2
        have e3 : (w4.drewN dd).cell? ⟨q, 3, none⟩ = some (.bool _) := hc3
        have e4 : (w4.drewN dd).frozen? ⟨q, 2, none⟩ = false := hf2
        have e5 : (w4.drewN dd).frozen? ⟨q, 3, none⟩ = false := hf3
        have hpq : p ≠ q := HQP.out
        have hpq2 : q ≠ p := fun h => hpq h.symm
        clear hbd hc0 hc1 hc2 hc3 hc4 hf2 hf3 hx0 hx3 HW4 HB4 HP4 HS4
        generalize w4.drewN dd = w5 at e0 e2 e3 e4 e5 HW5 HB5 HP5 HS5 ⊢
        go_upto_region 12 with fail
        generalize (w5.setCell ⟨q, 2, none⟩ (.int .i64 (A.nd i).key)).setCell ⟨q, 3, none⟩ (.bool true) = w6 at HW5 HB5 HP5 HS5 ⊢
        clear e0 e2 e3 e4 e5 hpq hpq2
        have hx3 : w6.cell? ⟨p, 3, none⟩ = some (.int .u32 ((A.nd i).right : Int)) := by rw [cell_of_row _ _ _ _ _ _ HP5.out]; rfl
        go_wp2_with fail
        have hr0 : (A.above (some (A.nd i).key) : Int) + (r.ht : Int) ≤ mo1 := by have := HMO.out; have := HHT.out; have := HK1.out; have := HAB.out; have := Nat.le_max_right l.ht r.ht; omega
        refine (HR.out (some (A.nd i).key) mo1 w6 HW5.out HS5.out hr0 (by have := HM1.out; have := HK2.out; omega)).mono ?_
        rintro e w7 ⟨hb7, hres⟩
        have HB7 : Hid (But q w w7) := HB5.out.trans hb7
        clear hb7 hr0 hx3
        rcases hres with ⟨s2, mo2, rfl, ho2, hw7, hk3, hk4⟩ | ⟨rfl, ho2⟩
        · have HO2 : Hid (ordT A.nd (.node i l r) s = some s2) := HF.out.trans ho2
          have HW7 := Lib.hid hw7
          have HE : Hid (mo - (A.above s : Int) ≤ mo2 - (A.above s2 : Int) ∧ mo2 ≤ mo) := (by
            have := HK1.out; have := HK2.out; have := HAB.out
            exact ⟨by omega, by omega⟩)
          clear ho2 hw7 hk3 hk4
          go_wp2_with fail
          go_ret
          exact ⟨HB7.out, .inl ⟨s2, mo2, rfl, HO2.out, HW7.out, HE.out.1, HE.out.2⟩⟩
        · have HO2 : Hid (ordT A.nd (.node i l r) s = none) := HF.out.trans ho2
          clear ho2
          go_wp2_with fail
          go_ret
          exact ⟨HB7.out, .inr ⟨rfl, HO2.out⟩⟩
    · have HF : Hid (ordT A.nd (.node i l r) s = none) := by
        have h1 := HOT.out
        rw [HO1.out] at h1
        simp only [if_pos hle] at h1
        exact h1
      have hg1 : (some k : Option Int).isSome = true := rfl
      have hg2 : decide ((A.nd i).key ≤ (some k : Option Int).getD 0) = true := decide_eq_true hle
      generalize (some k : Option Int).isSome = bS at hc3 hg1
      generalize (some k : Option Int).getD 0 = kS at hc2 hg2
      subst hg1
      clear hle
      go_upto_region 9 with fail
      go_quiet (fail)
      rename Nat => dd
      go_wp2_with fail
      go_ret
      exact ⟨HB4.out.trans (.of_below (below_drewN (Below.refl _ _) dd)), .inr ⟨rfl, HF.out⟩⟩
  · have HF : Hid (ordT A.nd (.node i l r) s = none) := by
      have h1 := HOT.out
      rw [ho1] at h1
      exact h1
    clear ho1
    go_wp2_with fail
    go_ret
    exact ⟨HB4.out, .inr ⟨rfl, HF.out⟩⟩
end Go.Proofs.YtnimbgcploohiaaGreat
set_option linter.unusedVariables false
set_option linter.unusedSimpArgs false
namespace Go.Proofs.YtnimbgcploohiaaGreat
open Go.RowKit
theorem take_d {P : Program} {ops : Array Oper} {Q : Exit → Act → World → Prop} {md : Region.Mode} {S : World → Prop} {i : Nat} {oi : Oper} {v : Value} {fuel : Nat} {listed : Array Bool} {a : Act} {w : World} (d : Option Tmp) (hi : ops[i]? = some oi)
    (hs : Region.noSelect ops = true) (hf : Region.free md ops listed i = true) (hr : (Region.ready md ops listed).contains i = true)
    (hQ : ∀ c a w, Q (.panic c) (a.put oi.dst v) w → Q (.panic c) a w) (hy : YieldsIf P ops S oi v a) (hS : S w) (hd : oi.dst = d)
    (h : wpAnyH P md ops Q S fuel (listed.setIfInBounds i true) (a.put d v) w) : wpAnyH P md ops Q S (fuel + 1) listed a w :=
  wpAnyH_take hi hs hf hr hQ hy hS (by rw [hd]; exact h)
theorem ordered_any {A : Ar} {a b : Option Addr} {N c m d q : Nat} (hok : A.σ.Ok) (hN : A.σ.cap = N) (hq : ∀ b off, a = some ⟨b, off, none⟩ → b ≠ q) {i : Nat} {t : Tr} (h : Sub A i t) : OrdSpec A a b N c m d q i t := by
  induction h with
  | nil =>
    intro s mo w hw hS hmo hm1
    have HW := Lib.hid hw
    have HF : Hid (ordT A.nd .nil s = some s) := rfl
    clear hw hS
    go_enter Tryz.func88, Tryz.ntmps88
    go_wp2_with fail
    go_ret
    exact ⟨But.refl _ _, .inl ⟨s, mo, rfl, HF.out, HW.out, Int.le_refl _, Int.le_refl _⟩⟩
  | node i l r h0 h1 _ _ ihl ihr => exact ordered_node hok hN hq h0 h1 ihl ihr
theorem run_size (v0 v1 v2 v3 v4 v5 v6 v7 : Value) (w : World) : Sem.run Tryz.prog (Instr.field 65 (.agg #[v0, v1, v2, v3, v4, v5, v6, v7]) 4) w = .ok v4 w := by
  simp [Instr.field, run_underlying Tryz.underlying65, part, asAgg, Result.andThen]
theorem nz_size {A : Ar} {i : Nat} (hi : i = 0 ∨ A.σ.on i = true) (hok : A.σ.Ok) : (A.nz i).size = A.sz i := by
  unfold Ar.nz Ar.sz
  rcases hi with rfl | hi
  · rw [if_pos rfl]
    have h0 : A.σ.on 0 ≠ true := fun h => by have := (hok.on 0 h).1; omega
    rw [if_neg h0]; rfl
  · have h0 : i ≠ 0 := fun h => by have := (hok.on i hi).1; omega
    rw [if_pos hi, if_neg h0]
def BalSpec (A : Ar) (a b : Option Addr) (N c m d : Nat) (i : Nat) (t : Tr) : Prop :=
  ∀ w : World, SlotsAt w a N A.sl → Calls Tryz.prog 89 #[.agg #[.slice a N c, .slice b m d], .int .u32 (i : Int)] w (Calm w (.bool (balT A t)))
set_option maxHeartbeats 4000000 in
set_option maxRecDepth 100000 in
theorem balanced_node {A : Ar} {a b : Option Addr} {N c m d i : Nat} {l r : Tr} (hok : A.σ.Ok) (ha : A.Agg) (hN : A.σ.cap = N) (h0 : i ≠ 0) (h1 : A.σ.on i = true) (hsl : Sub A (A.nd i).left l) (hsr : Sub A (A.nd i).right r)
    (ihl : BalSpec A a b N c m d (A.nd i).left l) (ihr : BalSpec A a b N c m d (A.nd i).right r) : BalSpec A a b N c m d i (.node i l r) := by
  intro w hS
  have hi := hok.on i h1
  have hcap := hok.cap2
  have hne0 : ((i : Int) == 0) = false := by simp; omega
  have HOK := Lib.hid hok
  have HN := Lib.hid hN
  have HON := Lib.hid h1
  have HL := Lib.hid ihl
  have HR := Lib.hid ihr
  have hi32 : i < 4294967296 := by omega
  have HI := Lib.hid hi32
  have hin : (Tryz.prog.info? 65).map (·.size) = some 8 := by kernel_rfl
  have HIN := Lib.hid hin
  have hz : ∀ w, (zeroValue 65).run Tryz.prog w = .ok (.agg (ndRow Nd.zero)) w := by
    have h : (Tryz.prog.info? 65).map (·.zero) = some (some (.agg (ndRow Nd.zero))) := by kernel_rfl
    intro w
    cases hi : Tryz.prog.info? 65 with
    | none => simp [hi] at h
    | some i =>
      have hz : i.zero = some (.agg (ndRow Nd.zero)) := by simpa [hi] using h
      simp [zeroValue, typeInfo, hi, hz]
  have hbn := below_new7 w (Obj.cells #[Value.slice a N c, Value.slice b m d] 40)
  have hbox := heap_alloc_new w (Obj.cells #[Value.slice a N c, Value.slice b m d] 40)
  have HBN := Lib.hid hbn
  have HBOX := Lib.hid hbox
  have HS1 := Lib.hid (hS.below hbn)
  have HSL := Lib.hid hsl
  have HSR := Lib.hid hsr
  have HAG := Lib.hid ha
  have hk := hS.kid (i - 1) (by omega)
  have ei : A.sl (i - 1) = ⟨A.σ.on i, A.cnt i, A.σ.gen i, A.nd i⟩ := by unfold Ar.sl; rw [show i - 1 + 1 = i by omega]
  rw [ei] at hk
  have HK : Hid ((A.nd i).left < 4294967296 ∧ (A.nd i).right < 4294967296) := hk
  clear hS ihl ihr hok hN h1 hi hcap hi32 hin hbn hbox hsl hsr ha hk ei
  go_enter Tryz.func89, Tryz.ntmps89
  go_upto_region 3 with fail
  generalize w.alloc (Obj.cells #[Value.slice a N c, Value.slice b m d] 40) = w1 at HBN HBOX HS1 ⊢
  obtain ⟨q, hq⟩ : ∃ q, w.heap.size = q := ⟨_, rfl⟩
  rw [hq] at HBOX HBN ⊢
  have HQ := Lib.hid hq
  clear hq
  obtain ⟨hc0, hc1⟩ := two_cells HBOX.out
  go_wp2_with fail
  refine (refNode_any (b := b) (m := m) (d := d) (c := c) HS1.out HOK.out HN.out HI.out).mono ?_
  rintro e w2 ⟨rfl, hb2⟩
  have hnz : A.nz i = A.nd i := by unfold Ar.nz; rw [HON.out]; rfl
  rw [hnz]
  have hq2 : q < w1.heap.size := (Array.getElem?_eq_some_iff.1 HBOX.out).1
  have hbox2 := (hb2.block q hq2).trans HBOX.out
  have hrz := heap_alloc_new w2 (Obj.cells (ndRow Nd.zero) 65)
  have HRZ := Lib.hid hrz
  have hba : Below w2.heap.size w2 ((w2.alloc (Obj.cells (ndRow Nd.zero) 65)).setRow w2.heap.size (ndRow (A.nd i))) := below_setRow ((Below.refl _ _).alloc (Nat.le_refl _) _) (Nat.le_refl _) _
  have HP3 : Hid (((w2.alloc (Obj.cells (ndRow Nd.zero) 65)).setRow w2.heap.size (ndRow (A.nd i))).heap[w2.heap.size]? = some (.cells (ndRow (A.nd i)) 65 (0, 0))) := setRow_heap _ _ _ _ _ _ hrz
  have HB3 : Hid (Below q w ((w2.alloc (Obj.cells (ndRow Nd.zero) 65)).setRow w2.heap.size (ndRow (A.nd i)))) := (HBN.out.trans (hb2.mono (Nat.le_of_lt hq2))).trans (hba.mono (by have := hb2.size; omega))
  have HS3 : Hid (SlotsAt ((w2.alloc (Obj.cells (ndRow Nd.zero) 65)).setRow w2.heap.size (ndRow (A.nd i))) a N A.sl) := (HS1.out.below hb2).below hba
  have HX3 : Hid (((w2.alloc (Obj.cells (ndRow Nd.zero) 65)).setRow w2.heap.size (ndRow (A.nd i))).heap[q]? = some (.cells #[Value.slice a N c, Value.slice b m d] 40 (0, 0))) := (hba.block q (by have := hb2.size; omega)).trans hbox2
  clear hnz hc0 hc1 hq2 hbox2 hrz hba hb2 HBN HBOX HS1
  go_upto_region 4 with (refine wpList_store_row rfl 65 (.tmp 5) (.tmp 10) rfl w2.heap.size (ndRow (A.nd i)) rfl rfl 65 _ HRZ.out HIN.out rfl (ndRow_one _) ?_)
  generalize (w2.alloc (Obj.cells (ndRow Nd.zero) 65)).setRow w2.heap.size (ndRow (A.nd i)) = w3 at HB3 HS3 HP3 HX3 ⊢
  generalize w2.heap.size = p at HP3 ⊢
  clear HRZ hz HIN HON
  have HBB : Hid (balT A (.node i l r) = (bal (A.sz (A.nd i).left) (A.sz (A.nd i).right) && balT A l && balT A r)) := rfl
  obtain ⟨hsl, hsr⟩ : A.sz (A.nd i).left = (l.size : Int) ∧ A.sz (A.nd i).right = (r.size : Int) := ⟨HSL.out.size HAG.out, HSR.out.size HAG.out⟩
  have HCX : Hid (∀ wx, Below w3.heap.size w3 wx → wx.cell? ⟨q, 0, none⟩ = some (.slice a N c) ∧ wx.cell? ⟨q, 1, none⟩ = some (.slice b m d) ∧ wx.cell? ⟨p, 2, none⟩ = some (.int .u32 ((A.nd i).left : Int)) ∧ wx.cell? ⟨p, 3, none⟩ = some (.int .u32 ((A.nd i).right : Int))) := fun wx hb => by
    have h1 := (hb.block q (Array.getElem?_eq_some_iff.1 HX3.out).1).trans HX3.out
    have h2 := (hb.block p (Array.getElem?_eq_some_iff.1 HP3.out).1).trans HP3.out
    exact ⟨(two_cells h1).1, (two_cells h1).2, by rw [cell_of_row _ _ _ _ _ _ h2]; rfl, by rw [cell_of_row _ _ _ _ _ _ h2]; rfl⟩
  have HC1 : Hid (∀ wx, Below w3.heap.size w3 wx → Calls Tryz.prog 54 #[.agg #[.slice a N c, .slice b m d], .int .u32 ((A.nd i).left : Int)] wx (Calm wx (.agg #[.int .i64 (A.nz (A.nd i).left).key, .int .i64 (A.nz (A.nd i).left).val, .int .u32 ((A.nz (A.nd i).left).left : Int), .int .u32 ((A.nz (A.nd i).left).right : Int), .int .i64 (A.nz (A.nd i).left).size, .int .i64 (A.nz (A.nd i).left).sum, .int .i64 (A.nz (A.nd i).left).mn, .int .i64 (A.nz (A.nd i).left).mx]))) := fun wx hb => refNode_any (HS3.out.below hb) HOK.out HN.out HK.out.1
  have HC2 : Hid (∀ wx, Below w3.heap.size w3 wx → Calls Tryz.prog 54 #[.agg #[.slice a N c, .slice b m d], .int .u32 ((A.nd i).right : Int)] wx (Calm wx (.agg #[.int .i64 (A.nz (A.nd i).right).key, .int .i64 (A.nz (A.nd i).right).val, .int .u32 ((A.nz (A.nd i).right).left : Int), .int .u32 ((A.nz (A.nd i).right).right : Int), .int .i64 (A.nz (A.nd i).right).size, .int .i64 (A.nz (A.nd i).right).sum, .int .i64 (A.nz (A.nd i).right).mn, .int .i64 (A.nz (A.nd i).right).mx]))) := fun wx hb => refNode_any (HS3.out.below hb) HOK.out HN.out HK.out.2
  have HC3 : Hid (∀ wx, Calls Tryz.prog 98 #[.int .i64 (A.nz (A.nd i).left).size, .int .i64 (A.nz (A.nd i).right).size] wx (Calm wx (.bool (bal (A.sz (A.nd i).left) (A.sz (A.nd i).right))))) := fun wx => by
    rw [nz_size HSL.out.idx HOK.out, nz_size HSR.out.idx HOK.out]
    have hs : ∀ y, (y = 0 ∨ A.σ.on y = true) → 0 ≤ A.sz y ∧ A.sz y ≤ 2147483647 := fun y hy => by
      unfold Ar.sz
      rcases hy with rfl | hy
      · rw [if_pos rfl]; omega
      · have := HAG.out.size y hy
        split <;> omega
    have h1 := hs _ HSL.out.idx
    have h2 := hs _ HSR.out.idx
    exact (refBalanced_any _ _ wx (by omega) (by omega) (by omega) (by omega)).mono fun e w' h => ⟨h.1, by rw [h.2]; exact Below.refl _ _⟩
  have HC4 : Hid (∀ wx, Below w3.heap.size w3 wx → Calls Tryz.prog 89 #[.agg #[.slice a N c, .slice b m d], .int .u32 ((A.nd i).left : Int)] wx (Calm wx (.bool (balT A l)))) := fun wx hb => HL.out wx (HS3.out.below hb)
  have HC5 : Hid (∀ wx, Below w3.heap.size w3 wx → Calls Tryz.prog 89 #[.agg #[.slice a N c, .slice b m d], .int .u32 ((A.nd i).right : Int)] wx (Calm wx (.bool (balT A r)))) := fun wx hb => HR.out wx (HS3.out.below hb)
  clear hsl hsr HL HR HK HSL HSR HAG HOK HN HS3 HP3 HI
  obtain ⟨hc0, hc1, hp2, hp3⟩ := HCX.out _ (Below.refl _ _)
  have hbd : Below w3.heap.size w3 w3.drew := (Below.refl _ _).drew
  have hfs := run_size
  generalize bal (A.sz (A.nd i).left) (A.sz (A.nd i).right) = B1 at HBB HC3
  generalize A.nz (A.nd i).left = xl at HC1 HC3
  generalize A.nz (A.nd i).right = xr at HC2 HC3
  have HQ3 : Hid (q ≤ w3.heap.size) := Nat.le_of_lt (Array.getElem?_eq_some_iff.1 HX3.out).1
  clear HX3
  cases B1
  · skip
    refine wp_region_held_drew (S := (fun w' => Below w3.heap.size w3 w' ∧ w'.cell? ⟨q, 0, none⟩ = some (.slice a N c) ∧ w'.cell? ⟨q, 1, none⟩ = some (.slice b m d) ∧ w'.cell? ⟨p, 2, none⟩ = some (.int .u32 ((A.nd i).left : Int)) ∧ w'.cell? ⟨p, 3, none⟩ = some (.int .u32 ((A.nd i).right : Int)))) (by kernel_rfl) (by (try dsimp only); go_keep) (fun hHeld => ?_)
    refine take_d (i := 0) (oi := _) (v := ?_) (some 11) rfl (by kernel_rfl) (by kernel_rfl) (by kernel_rfl) (fun _ _ _ h => h) (Or.inl ⟨by rfl, ?_⟩) (by assumption) (by kernel_rfl) ?_
    rotate_left
    · intro w hSw; (try dsimp only at hSw); go_simp; try with_reducible rfl
    (try simp only [Act.put, List.setIfInBounds_toArray, List.set_cons_zero, List.set_cons_succ])
    refine take_d (i := 1) (oi := _) (v := ?_) (some 12) rfl (by kernel_rfl) (by kernel_rfl) (by kernel_rfl) (fun _ _ _ h => h) (Or.inl ⟨by rfl, ?_⟩) (by assumption) (by kernel_rfl) ?_
    rotate_left
    · intro w hSw; (try dsimp only at hSw); go_simp; try with_reducible rfl
    (try simp only [Act.put, List.setIfInBounds_toArray, List.set_cons_zero, List.set_cons_succ])
    refine take_d (i := 2) (oi := _) (v := ?_) (some 13) rfl (by kernel_rfl) (by kernel_rfl) (by kernel_rfl) (fun _ _ _ h => h) (Or.inl ⟨by rfl, ?_⟩) (by assumption) (by kernel_rfl) ?_
    rotate_left
    · intro w hSw; (try dsimp only at hSw); go_simp; try with_reducible rfl
    (try simp only [Act.put, List.setIfInBounds_toArray, List.set_cons_zero, List.set_cons_succ])
    refine take_d (i := 5) (oi := _) (v := ?_) (some 16) rfl (by kernel_rfl) (by kernel_rfl) (by kernel_rfl) (fun _ _ _ h => h) (Or.inl ⟨by rfl, ?_⟩) (by assumption) (by kernel_rfl) ?_
    rotate_left
    · intro w hSw; (try dsimp only at hSw); go_simp; try with_reducible rfl
    (try simp only [Act.put, List.setIfInBounds_toArray, List.set_cons_zero, List.set_cons_succ])
    refine take_d (i := 6) (oi := _) (v := ?_) (some 17) rfl (by kernel_rfl) (by kernel_rfl) (by kernel_rfl) (fun _ _ _ h => h) (Or.inl ⟨by rfl, ?_⟩) (by assumption) (by kernel_rfl) ?_
    rotate_left
    · intro w hSw; (try dsimp only at hSw); go_simp; try with_reducible rfl
    (try simp only [Act.put, List.setIfInBounds_toArray, List.set_cons_zero, List.set_cons_succ])
    refine take_d (i := 7) (oi := _) (v := ?_) (some 18) rfl (by kernel_rfl) (by kernel_rfl) (by kernel_rfl) (fun _ _ _ h => h) (Or.inl ⟨by rfl, ?_⟩) (by assumption) (by kernel_rfl) ?_
    rotate_left
    · intro w hSw; (try dsimp only at hSw); go_simp; try with_reducible rfl
    (try simp only [Act.put, List.setIfInBounds_toArray, List.set_cons_zero, List.set_cons_succ])
    refine wpAnyH_ready (rs := [3]) (by kernel_rfl) (by simp) ?_
    refine AllReadyH.cons (o := _) rfl (fun K hK => ?_) AllReadyH.nil
    go_simp
    go_at_call 54
    refine (HC1.out _ hHeld.1).mono ?_
    rintro e w6 ⟨rfl, hb6⟩
    have hbn := below_chain7 (a := w3) hHeld.1 hb6
    obtain ⟨hd0, hd1, hd2, hd3⟩ := HCX.out _ hbn
    clear hb6
    try go_wp2_with fail
    refine hK.out _ _ (by (try dsimp only); go_keep) (fun hHeld => ?_)
    clear hK K
    (try simp only [Act.put, List.setIfInBounds_toArray, List.set_cons_zero, List.set_cons_succ])
    refine take_d (i := 4) (oi := _) (v := ?_) (some 15) rfl (by kernel_rfl) (by kernel_rfl) (by kernel_rfl) (fun _ _ _ h => h) (Or.inl ⟨by rfl, ?_⟩) (by assumption) (by kernel_rfl) ?_
    rotate_left
    · intro w hSw; (try dsimp only at hSw); go_simp; try with_reducible rfl
    (try simp only [Act.put, List.setIfInBounds_toArray, List.set_cons_zero, List.set_cons_succ])
    refine wpAnyH_ready (rs := [8]) (by kernel_rfl) (by simp) ?_
    refine AllReadyH.cons (o := _) rfl (fun K hK => ?_) AllReadyH.nil
    go_simp
    go_at_call 54
    refine (HC2.out _ hHeld.1).mono ?_
    rintro e w6 ⟨rfl, hb6⟩
    have hbn := below_chain7 (a := w3) hHeld.1 hb6
    obtain ⟨hd0, hd1, hd2, hd3⟩ := HCX.out _ hbn
    clear hb6
    try go_wp2_with fail
    refine hK.out _ _ (by (try dsimp only); go_keep) (fun hHeld => ?_)
    clear hK K
    (try simp only [Act.put, List.setIfInBounds_toArray, List.set_cons_zero, List.set_cons_succ])
    refine take_d (i := 9) (oi := _) (v := ?_) (some 20) rfl (by kernel_rfl) (by kernel_rfl) (by kernel_rfl) (fun _ _ _ h => h) (Or.inl ⟨by rfl, ?_⟩) (by assumption) (by kernel_rfl) ?_
    rotate_left
    · intro w hSw; (try dsimp only at hSw); go_simp; try with_reducible rfl
    (try simp only [Act.put, List.setIfInBounds_toArray, List.set_cons_zero, List.set_cons_succ])
    refine wpAnyH_ready (rs := [10]) (by kernel_rfl) (by simp) ?_
    refine AllReadyH.cons (o := _) rfl (fun K hK => ?_) AllReadyH.nil
    go_simp
    go_at_call 98
    refine (HC3.out _).mono ?_
    rintro e w6 ⟨rfl, hb6⟩
    have hbn := below_chain7 (a := w3) hHeld.1 hb6
    obtain ⟨hd0, hd1, hd2, hd3⟩ := HCX.out _ hbn
    clear hb6
    try go_wp2_with fail
    refine hK.out _ _ (by (try dsimp only); go_keep) (fun hHeld => ?_)
    clear hK K
    (try simp only [Act.put, List.setIfInBounds_toArray, List.set_cons_zero, List.set_cons_succ])
    refine take_d (i := 11) (oi := _) (v := ?_) (some 22) rfl (by kernel_rfl) (by kernel_rfl) (by kernel_rfl) (fun _ _ _ h => h) (Or.inl ⟨by rfl, ?_⟩) (by assumption) (by kernel_rfl) ?_
    rotate_left
    · intro w hSw; (try dsimp only at hSw); go_simp; try with_reducible rfl
    (try simp only [Act.put, List.setIfInBounds_toArray, List.set_cons_zero, List.set_cons_succ])
    refine take_d (i := 12) (oi := _) (v := undef) (some 23) rfl (by kernel_rfl) (by kernel_rfl) (by kernel_rfl) (fun _ _ _ h => h) (Or.inr ⟨by kernel_rfl, rfl⟩) (by assumption) (by kernel_rfl) ?_
    (try simp only [Act.put, List.setIfInBounds_toArray, List.set_cons_zero, List.set_cons_succ])
    refine take_d (i := 13) (oi := _) (v := undef) (some 24) rfl (by kernel_rfl) (by kernel_rfl) (by kernel_rfl) (fun _ _ _ h => h) (Or.inr ⟨by kernel_rfl, rfl⟩) (by assumption) (by kernel_rfl) ?_
    (try simp only [Act.put, List.setIfInBounds_toArray, List.set_cons_zero, List.set_cons_succ])
    refine take_d (i := 14) (oi := _) (v := undef) (some 25) rfl (by kernel_rfl) (by kernel_rfl) (by kernel_rfl) (fun _ _ _ h => h) (Or.inr ⟨by kernel_rfl, rfl⟩) (by assumption) (by kernel_rfl) ?_
    (try simp only [Act.put, List.setIfInBounds_toArray, List.set_cons_zero, List.set_cons_succ])
    refine take_d (i := 15) (oi := _) (v := undef) (some 26) rfl (by kernel_rfl) (by kernel_rfl) (by kernel_rfl) (fun _ _ _ h => h) (Or.inr ⟨by kernel_rfl, rfl⟩) (by assumption) (by kernel_rfl) ?_
    (try simp only [Act.put, List.setIfInBounds_toArray, List.set_cons_zero, List.set_cons_succ])
    refine take_d (i := 16) (oi := _) (v := ?_) (some 27) rfl (by kernel_rfl) (by kernel_rfl) (by kernel_rfl) (fun _ _ _ h => h) (Or.inl ⟨by rfl, ?_⟩) (by assumption) (by kernel_rfl) ?_
    rotate_left
    · intro w hSw; (try dsimp only at hSw); go_simp; try with_reducible rfl
    (try simp only [Act.put, List.setIfInBounds_toArray, List.set_cons_zero, List.set_cons_succ])
    refine take_d (i := 17) (oi := _) (v := ?_) (some 28) rfl (by kernel_rfl) (by kernel_rfl) (by kernel_rfl) (fun _ _ _ h => h) (Or.inl ⟨by rfl, ?_⟩) (by assumption) (by kernel_rfl) ?_
    rotate_left
    · intro w hSw; (try dsimp only at hSw); go_simp; try with_reducible rfl
    (try simp only [Act.put, List.setIfInBounds_toArray, List.set_cons_zero, List.set_cons_succ])
    refine take_d (i := 18) (oi := _) (v := undef) (some 29) rfl (by kernel_rfl) (by kernel_rfl) (by kernel_rfl) (fun _ _ _ h => h) (Or.inr ⟨by kernel_rfl, rfl⟩) (by assumption) (by kernel_rfl) ?_
    (try simp only [Act.put, List.setIfInBounds_toArray, List.set_cons_zero, List.set_cons_succ])
    refine take_d (i := 19) (oi := _) (v := undef) (some 30) rfl (by kernel_rfl) (by kernel_rfl) (by kernel_rfl) (fun _ _ _ h => h) (Or.inr ⟨by kernel_rfl, rfl⟩) (by assumption) (by kernel_rfl) ?_
    (try simp only [Act.put, List.setIfInBounds_toArray, List.set_cons_zero, List.set_cons_succ])
    refine take_d (i := 20) (oi := _) (v := undef) (some 31) rfl (by kernel_rfl) (by kernel_rfl) (by kernel_rfl) (fun _ _ _ h => h) (Or.inr ⟨by kernel_rfl, rfl⟩) (by assumption) (by kernel_rfl) ?_
    (try simp only [Act.put, List.setIfInBounds_toArray, List.set_cons_zero, List.set_cons_succ])
    refine take_d (i := 21) (oi := _) (v := undef) (some 32) rfl (by kernel_rfl) (by kernel_rfl) (by kernel_rfl) (fun _ _ _ h => h) (Or.inr ⟨by kernel_rfl, rfl⟩) (by assumption) (by kernel_rfl) ?_
    (try simp only [Act.put, List.setIfInBounds_toArray, List.set_cons_zero, List.set_cons_succ])
    refine take_d (i := 22) (oi := _) (v := ?_) (some 33) rfl (by kernel_rfl) (by kernel_rfl) (by kernel_rfl) (fun _ _ _ h => h) (Or.inl ⟨by rfl, ?_⟩) (by assumption) (by kernel_rfl) ?_
    rotate_left
    · intro w hSw; (try dsimp only at hSw); go_simp; try with_reducible rfl
    (try simp only [Act.put, List.setIfInBounds_toArray, List.set_cons_zero, List.set_cons_succ])
    refine take_d (i := 23) (oi := _) (v := ?_) (some 4) rfl (by kernel_rfl) (by kernel_rfl) (by kernel_rfl) (fun _ _ _ h => h) (Or.inl ⟨by rfl, ?_⟩) (by assumption) (by kernel_rfl) ?_
    rotate_left
    · intro w hSw; (try dsimp only at hSw); go_simp; try with_reducible rfl
    (try simp only [Act.put, List.setIfInBounds_toArray, List.set_cons_zero, List.set_cons_succ])
    refine wpAnyH_done (by kernel_rfl) ?_ _
    have HF := Lib.hid hHeld.1
    have HQB : Hid (Below w.heap.size w _) := HQ.out ▸ (HB3.out.trans (HF.out.mono HQ3.out))
    clear hHeld hbn hd0 hd1 hd2 hd3
    go_wp2_with fail
    go_ret
    exact ⟨by rw [HBB.out]; rfl, HQB.out⟩
  · generalize balT A l = B2 at HBB HC4
    cases B2
    · skip
      refine wp_region_held_drew (S := (fun w' => Below w3.heap.size w3 w' ∧ w'.cell? ⟨q, 0, none⟩ = some (.slice a N c) ∧ w'.cell? ⟨q, 1, none⟩ = some (.slice b m d) ∧ w'.cell? ⟨p, 2, none⟩ = some (.int .u32 ((A.nd i).left : Int)) ∧ w'.cell? ⟨p, 3, none⟩ = some (.int .u32 ((A.nd i).right : Int)))) (by kernel_rfl) (by (try dsimp only); go_keep) (fun hHeld => ?_)
      refine take_d (i := 0) (oi := _) (v := ?_) (some 11) rfl (by kernel_rfl) (by kernel_rfl) (by kernel_rfl) (fun _ _ _ h => h) (Or.inl ⟨by rfl, ?_⟩) (by assumption) (by kernel_rfl) ?_
      rotate_left
      · intro w hSw; (try dsimp only at hSw); go_simp; try with_reducible rfl
      (try simp only [Act.put, List.setIfInBounds_toArray, List.set_cons_zero, List.set_cons_succ])
      refine take_d (i := 1) (oi := _) (v := ?_) (some 12) rfl (by kernel_rfl) (by kernel_rfl) (by kernel_rfl) (fun _ _ _ h => h) (Or.inl ⟨by rfl, ?_⟩) (by assumption) (by kernel_rfl) ?_
      rotate_left
      · intro w hSw; (try dsimp only at hSw); go_simp; try with_reducible rfl
      (try simp only [Act.put, List.setIfInBounds_toArray, List.set_cons_zero, List.set_cons_succ])
      refine take_d (i := 2) (oi := _) (v := ?_) (some 13) rfl (by kernel_rfl) (by kernel_rfl) (by kernel_rfl) (fun _ _ _ h => h) (Or.inl ⟨by rfl, ?_⟩) (by assumption) (by kernel_rfl) ?_
      rotate_left
      · intro w hSw; (try dsimp only at hSw); go_simp; try with_reducible rfl
      (try simp only [Act.put, List.setIfInBounds_toArray, List.set_cons_zero, List.set_cons_succ])
      refine take_d (i := 5) (oi := _) (v := ?_) (some 16) rfl (by kernel_rfl) (by kernel_rfl) (by kernel_rfl) (fun _ _ _ h => h) (Or.inl ⟨by rfl, ?_⟩) (by assumption) (by kernel_rfl) ?_
      rotate_left
      · intro w hSw; (try dsimp only at hSw); go_simp; try with_reducible rfl
      (try simp only [Act.put, List.setIfInBounds_toArray, List.set_cons_zero, List.set_cons_succ])
      refine take_d (i := 6) (oi := _) (v := ?_) (some 17) rfl (by kernel_rfl) (by kernel_rfl) (by kernel_rfl) (fun _ _ _ h => h) (Or.inl ⟨by rfl, ?_⟩) (by assumption) (by kernel_rfl) ?_
      rotate_left
      · intro w hSw; (try dsimp only at hSw); go_simp; try with_reducible rfl
      (try simp only [Act.put, List.setIfInBounds_toArray, List.set_cons_zero, List.set_cons_succ])
      refine take_d (i := 7) (oi := _) (v := ?_) (some 18) rfl (by kernel_rfl) (by kernel_rfl) (by kernel_rfl) (fun _ _ _ h => h) (Or.inl ⟨by rfl, ?_⟩) (by assumption) (by kernel_rfl) ?_
      rotate_left
      · intro w hSw; (try dsimp only at hSw); go_simp; try with_reducible rfl
      (try simp only [Act.put, List.setIfInBounds_toArray, List.set_cons_zero, List.set_cons_succ])
      refine wpAnyH_ready (rs := [3]) (by kernel_rfl) (by simp) ?_
      refine AllReadyH.cons (o := _) rfl (fun K hK => ?_) AllReadyH.nil
      go_simp
      go_at_call 54
      refine (HC1.out _ hHeld.1).mono ?_
      rintro e w6 ⟨rfl, hb6⟩
      have hbn := below_chain7 (a := w3) hHeld.1 hb6
      obtain ⟨hd0, hd1, hd2, hd3⟩ := HCX.out _ hbn
      clear hb6
      try go_wp2_with fail
      refine hK.out _ _ (by (try dsimp only); go_keep) (fun hHeld => ?_)
      clear hK K
      (try simp only [Act.put, List.setIfInBounds_toArray, List.set_cons_zero, List.set_cons_succ])
      refine take_d (i := 4) (oi := _) (v := ?_) (some 15) rfl (by kernel_rfl) (by kernel_rfl) (by kernel_rfl) (fun _ _ _ h => h) (Or.inl ⟨by rfl, ?_⟩) (by assumption) (by kernel_rfl) ?_
      rotate_left
      · intro w hSw; (try dsimp only at hSw); go_simp; try with_reducible rfl
      (try simp only [Act.put, List.setIfInBounds_toArray, List.set_cons_zero, List.set_cons_succ])
      refine wpAnyH_ready (rs := [8]) (by kernel_rfl) (by simp) ?_
      refine AllReadyH.cons (o := _) rfl (fun K hK => ?_) AllReadyH.nil
      go_simp
      go_at_call 54
      refine (HC2.out _ hHeld.1).mono ?_
      rintro e w6 ⟨rfl, hb6⟩
      have hbn := below_chain7 (a := w3) hHeld.1 hb6
      obtain ⟨hd0, hd1, hd2, hd3⟩ := HCX.out _ hbn
      clear hb6
      try go_wp2_with fail
      refine hK.out _ _ (by (try dsimp only); go_keep) (fun hHeld => ?_)
      clear hK K
      (try simp only [Act.put, List.setIfInBounds_toArray, List.set_cons_zero, List.set_cons_succ])
      refine take_d (i := 9) (oi := _) (v := ?_) (some 20) rfl (by kernel_rfl) (by kernel_rfl) (by kernel_rfl) (fun _ _ _ h => h) (Or.inl ⟨by rfl, ?_⟩) (by assumption) (by kernel_rfl) ?_
      rotate_left
      · intro w hSw; (try dsimp only at hSw); go_simp; try with_reducible rfl
      (try simp only [Act.put, List.setIfInBounds_toArray, List.set_cons_zero, List.set_cons_succ])
      refine wpAnyH_ready (rs := [10]) (by kernel_rfl) (by simp) ?_
      refine AllReadyH.cons (o := _) rfl (fun K hK => ?_) AllReadyH.nil
      go_simp
      go_at_call 98
      refine (HC3.out _).mono ?_
      rintro e w6 ⟨rfl, hb6⟩
      have hbn := below_chain7 (a := w3) hHeld.1 hb6
      obtain ⟨hd0, hd1, hd2, hd3⟩ := HCX.out _ hbn
      clear hb6
      try go_wp2_with fail
      refine hK.out _ _ (by (try dsimp only); go_keep) (fun hHeld => ?_)
      clear hK K
      (try simp only [Act.put, List.setIfInBounds_toArray, List.set_cons_zero, List.set_cons_succ])
      refine take_d (i := 11) (oi := _) (v := ?_) (some 22) rfl (by kernel_rfl) (by kernel_rfl) (by kernel_rfl) (fun _ _ _ h => h) (Or.inl ⟨by rfl, ?_⟩) (by assumption) (by kernel_rfl) ?_
      rotate_left
      · intro w hSw; (try dsimp only at hSw); go_simp; try with_reducible rfl
      (try simp only [Act.put, List.setIfInBounds_toArray, List.set_cons_zero, List.set_cons_succ])
      refine take_d (i := 12) (oi := _) (v := ?_) (some 23) rfl (by kernel_rfl) (by kernel_rfl) (by kernel_rfl) (fun _ _ _ h => h) (Or.inl ⟨by rfl, ?_⟩) (by assumption) (by kernel_rfl) ?_
      rotate_left
      · intro w hSw; (try dsimp only at hSw); go_simp; try with_reducible rfl
      (try simp only [Act.put, List.setIfInBounds_toArray, List.set_cons_zero, List.set_cons_succ])
      refine take_d (i := 13) (oi := _) (v := ?_) (some 24) rfl (by kernel_rfl) (by kernel_rfl) (by kernel_rfl) (fun _ _ _ h => h) (Or.inl ⟨by rfl, ?_⟩) (by assumption) (by kernel_rfl) ?_
      rotate_left
      · intro w hSw; (try dsimp only at hSw); go_simp; try with_reducible rfl
      (try simp only [Act.put, List.setIfInBounds_toArray, List.set_cons_zero, List.set_cons_succ])
      refine take_d (i := 14) (oi := _) (v := ?_) (some 25) rfl (by kernel_rfl) (by kernel_rfl) (by kernel_rfl) (fun _ _ _ h => h) (Or.inl ⟨by rfl, ?_⟩) (by assumption) (by kernel_rfl) ?_
      rotate_left
      · intro w hSw; (try dsimp only at hSw); go_simp; try with_reducible rfl
      (try simp only [Act.put, List.setIfInBounds_toArray, List.set_cons_zero, List.set_cons_succ])
      refine wpAnyH_ready (rs := [15]) (by kernel_rfl) (by simp) ?_
      refine AllReadyH.cons (o := _) rfl (fun K hK => ?_) AllReadyH.nil
      go_simp
      go_at_call 89
      refine (HC4.out _ hHeld.1).mono ?_
      rintro e w6 ⟨rfl, hb6⟩
      have hbn := below_chain7 (a := w3) hHeld.1 hb6
      obtain ⟨hd0, hd1, hd2, hd3⟩ := HCX.out _ hbn
      clear hb6
      try go_wp2_with fail
      refine hK.out _ _ (by (try dsimp only); go_keep) (fun hHeld => ?_)
      clear hK K
      (try simp only [Act.put, List.setIfInBounds_toArray, List.set_cons_zero, List.set_cons_succ])
      refine take_d (i := 16) (oi := _) (v := ?_) (some 27) rfl (by kernel_rfl) (by kernel_rfl) (by kernel_rfl) (fun _ _ _ h => h) (Or.inl ⟨by rfl, ?_⟩) (by assumption) (by kernel_rfl) ?_
      rotate_left
      · intro w hSw; (try dsimp only at hSw); go_simp; try with_reducible rfl
      (try simp only [Act.put, List.setIfInBounds_toArray, List.set_cons_zero, List.set_cons_succ])
      refine take_d (i := 17) (oi := _) (v := ?_) (some 28) rfl (by kernel_rfl) (by kernel_rfl) (by kernel_rfl) (fun _ _ _ h => h) (Or.inl ⟨by rfl, ?_⟩) (by assumption) (by kernel_rfl) ?_
      rotate_left
      · intro w hSw; (try dsimp only at hSw); go_simp; try with_reducible rfl
      (try simp only [Act.put, List.setIfInBounds_toArray, List.set_cons_zero, List.set_cons_succ])
      refine take_d (i := 18) (oi := _) (v := undef) (some 29) rfl (by kernel_rfl) (by kernel_rfl) (by kernel_rfl) (fun _ _ _ h => h) (Or.inr ⟨by kernel_rfl, rfl⟩) (by assumption) (by kernel_rfl) ?_
      (try simp only [Act.put, List.setIfInBounds_toArray, List.set_cons_zero, List.set_cons_succ])
      refine take_d (i := 19) (oi := _) (v := undef) (some 30) rfl (by kernel_rfl) (by kernel_rfl) (by kernel_rfl) (fun _ _ _ h => h) (Or.inr ⟨by kernel_rfl, rfl⟩) (by assumption) (by kernel_rfl) ?_
      (try simp only [Act.put, List.setIfInBounds_toArray, List.set_cons_zero, List.set_cons_succ])
      refine take_d (i := 20) (oi := _) (v := undef) (some 31) rfl (by kernel_rfl) (by kernel_rfl) (by kernel_rfl) (fun _ _ _ h => h) (Or.inr ⟨by kernel_rfl, rfl⟩) (by assumption) (by kernel_rfl) ?_
      (try simp only [Act.put, List.setIfInBounds_toArray, List.set_cons_zero, List.set_cons_succ])
      refine take_d (i := 21) (oi := _) (v := undef) (some 32) rfl (by kernel_rfl) (by kernel_rfl) (by kernel_rfl) (fun _ _ _ h => h) (Or.inr ⟨by kernel_rfl, rfl⟩) (by assumption) (by kernel_rfl) ?_
      (try simp only [Act.put, List.setIfInBounds_toArray, List.set_cons_zero, List.set_cons_succ])
      refine take_d (i := 22) (oi := _) (v := ?_) (some 33) rfl (by kernel_rfl) (by kernel_rfl) (by kernel_rfl) (fun _ _ _ h => h) (Or.inl ⟨by rfl, ?_⟩) (by assumption) (by kernel_rfl) ?_
      rotate_left
      · intro w hSw; (try dsimp only at hSw); go_simp; try with_reducible rfl
      (try simp only [Act.put, List.setIfInBounds_toArray, List.set_cons_zero, List.set_cons_succ])
      refine take_d (i := 23) (oi := _) (v := ?_) (some 4) rfl (by kernel_rfl) (by kernel_rfl) (by kernel_rfl) (fun _ _ _ h => h) (Or.inl ⟨by rfl, ?_⟩) (by assumption) (by kernel_rfl) ?_
      rotate_left
      · intro w hSw; (try dsimp only at hSw); go_simp; try with_reducible rfl
      (try simp only [Act.put, List.setIfInBounds_toArray, List.set_cons_zero, List.set_cons_succ])
      refine wpAnyH_done (by kernel_rfl) ?_ _
      have HF := Lib.hid hHeld.1
      have HQB : Hid (Below w.heap.size w _) := HQ.out ▸ (HB3.out.trans (HF.out.mono HQ3.out))
      clear hHeld hbn hd0 hd1 hd2 hd3
      go_wp2_with fail
      go_ret
      exact ⟨by rw [HBB.out]; rfl, HQB.out⟩
    · generalize hB3 : balT A r = B3 at HBB HC5
      clear hB3
      refine wp_region_held_drew (S := (fun w' => Below w3.heap.size w3 w' ∧ w'.cell? ⟨q, 0, none⟩ = some (.slice a N c) ∧ w'.cell? ⟨q, 1, none⟩ = some (.slice b m d) ∧ w'.cell? ⟨p, 2, none⟩ = some (.int .u32 ((A.nd i).left : Int)) ∧ w'.cell? ⟨p, 3, none⟩ = some (.int .u32 ((A.nd i).right : Int)))) (by kernel_rfl) (by (try dsimp only); go_keep) (fun hHeld => ?_)
      refine take_d (i := 0) (oi := _) (v := ?_) (some 11) rfl (by kernel_rfl) (by kernel_rfl) (by kernel_rfl) (fun _ _ _ h => h) (Or.inl ⟨by rfl, ?_⟩) (by assumption) (by kernel_rfl) ?_
      rotate_left
      · intro w hSw; (try dsimp only at hSw); go_simp; try with_reducible rfl
      (try simp only [Act.put, List.setIfInBounds_toArray, List.set_cons_zero, List.set_cons_succ])
      refine take_d (i := 1) (oi := _) (v := ?_) (some 12) rfl (by kernel_rfl) (by kernel_rfl) (by kernel_rfl) (fun _ _ _ h => h) (Or.inl ⟨by rfl, ?_⟩) (by assumption) (by kernel_rfl) ?_
      rotate_left
      · intro w hSw; (try dsimp only at hSw); go_simp; try with_reducible rfl
      (try simp only [Act.put, List.setIfInBounds_toArray, List.set_cons_zero, List.set_cons_succ])
      refine take_d (i := 2) (oi := _) (v := ?_) (some 13) rfl (by kernel_rfl) (by kernel_rfl) (by kernel_rfl) (fun _ _ _ h => h) (Or.inl ⟨by rfl, ?_⟩) (by assumption) (by kernel_rfl) ?_
      rotate_left
      · intro w hSw; (try dsimp only at hSw); go_simp; try with_reducible rfl
      (try simp only [Act.put, List.setIfInBounds_toArray, List.set_cons_zero, List.set_cons_succ])
      refine take_d (i := 5) (oi := _) (v := ?_) (some 16) rfl (by kernel_rfl) (by kernel_rfl) (by kernel_rfl) (fun _ _ _ h => h) (Or.inl ⟨by rfl, ?_⟩) (by assumption) (by kernel_rfl) ?_
      rotate_left
      · intro w hSw; (try dsimp only at hSw); go_simp; try with_reducible rfl
      (try simp only [Act.put, List.setIfInBounds_toArray, List.set_cons_zero, List.set_cons_succ])
      refine take_d (i := 6) (oi := _) (v := ?_) (some 17) rfl (by kernel_rfl) (by kernel_rfl) (by kernel_rfl) (fun _ _ _ h => h) (Or.inl ⟨by rfl, ?_⟩) (by assumption) (by kernel_rfl) ?_
      rotate_left
      · intro w hSw; (try dsimp only at hSw); go_simp; try with_reducible rfl
      (try simp only [Act.put, List.setIfInBounds_toArray, List.set_cons_zero, List.set_cons_succ])
      refine take_d (i := 7) (oi := _) (v := ?_) (some 18) rfl (by kernel_rfl) (by kernel_rfl) (by kernel_rfl) (fun _ _ _ h => h) (Or.inl ⟨by rfl, ?_⟩) (by assumption) (by kernel_rfl) ?_
      rotate_left
      · intro w hSw; (try dsimp only at hSw); go_simp; try with_reducible rfl
      (try simp only [Act.put, List.setIfInBounds_toArray, List.set_cons_zero, List.set_cons_succ])
      refine wpAnyH_ready (rs := [3]) (by kernel_rfl) (by simp) ?_
      refine AllReadyH.cons (o := _) rfl (fun K hK => ?_) AllReadyH.nil
      go_simp
      go_at_call 54
      refine (HC1.out _ hHeld.1).mono ?_
      rintro e w6 ⟨rfl, hb6⟩
      have hbn := below_chain7 (a := w3) hHeld.1 hb6
      obtain ⟨hd0, hd1, hd2, hd3⟩ := HCX.out _ hbn
      clear hb6
      try go_wp2_with fail
      refine hK.out _ _ (by (try dsimp only); go_keep) (fun hHeld => ?_)
      clear hK K
      (try simp only [Act.put, List.setIfInBounds_toArray, List.set_cons_zero, List.set_cons_succ])
      refine take_d (i := 4) (oi := _) (v := ?_) (some 15) rfl (by kernel_rfl) (by kernel_rfl) (by kernel_rfl) (fun _ _ _ h => h) (Or.inl ⟨by rfl, ?_⟩) (by assumption) (by kernel_rfl) ?_
      rotate_left
      · intro w hSw; (try dsimp only at hSw); go_simp; try with_reducible rfl
      (try simp only [Act.put, List.setIfInBounds_toArray, List.set_cons_zero, List.set_cons_succ])
      refine wpAnyH_ready (rs := [8]) (by kernel_rfl) (by simp) ?_
      refine AllReadyH.cons (o := _) rfl (fun K hK => ?_) AllReadyH.nil
      go_simp
      go_at_call 54
      refine (HC2.out _ hHeld.1).mono ?_
      rintro e w6 ⟨rfl, hb6⟩
      have hbn := below_chain7 (a := w3) hHeld.1 hb6
      obtain ⟨hd0, hd1, hd2, hd3⟩ := HCX.out _ hbn
      clear hb6
      try go_wp2_with fail
      refine hK.out _ _ (by (try dsimp only); go_keep) (fun hHeld => ?_)
      clear hK K
      (try simp only [Act.put, List.setIfInBounds_toArray, List.set_cons_zero, List.set_cons_succ])
      refine take_d (i := 9) (oi := _) (v := ?_) (some 20) rfl (by kernel_rfl) (by kernel_rfl) (by kernel_rfl) (fun _ _ _ h => h) (Or.inl ⟨by rfl, ?_⟩) (by assumption) (by kernel_rfl) ?_
      rotate_left
      · intro w hSw; (try dsimp only at hSw); go_simp; try with_reducible rfl
      (try simp only [Act.put, List.setIfInBounds_toArray, List.set_cons_zero, List.set_cons_succ])
      refine wpAnyH_ready (rs := [10]) (by kernel_rfl) (by simp) ?_
      refine AllReadyH.cons (o := _) rfl (fun K hK => ?_) AllReadyH.nil
      go_simp
      go_at_call 98
      refine (HC3.out _).mono ?_
      rintro e w6 ⟨rfl, hb6⟩
      have hbn := below_chain7 (a := w3) hHeld.1 hb6
      obtain ⟨hd0, hd1, hd2, hd3⟩ := HCX.out _ hbn
      clear hb6
      try go_wp2_with fail
      refine hK.out _ _ (by (try dsimp only); go_keep) (fun hHeld => ?_)
      clear hK K
      (try simp only [Act.put, List.setIfInBounds_toArray, List.set_cons_zero, List.set_cons_succ])
      refine take_d (i := 11) (oi := _) (v := ?_) (some 22) rfl (by kernel_rfl) (by kernel_rfl) (by kernel_rfl) (fun _ _ _ h => h) (Or.inl ⟨by rfl, ?_⟩) (by assumption) (by kernel_rfl) ?_
      rotate_left
      · intro w hSw; (try dsimp only at hSw); go_simp; try with_reducible rfl
      (try simp only [Act.put, List.setIfInBounds_toArray, List.set_cons_zero, List.set_cons_succ])
      refine take_d (i := 12) (oi := _) (v := ?_) (some 23) rfl (by kernel_rfl) (by kernel_rfl) (by kernel_rfl) (fun _ _ _ h => h) (Or.inl ⟨by rfl, ?_⟩) (by assumption) (by kernel_rfl) ?_
      rotate_left
      · intro w hSw; (try dsimp only at hSw); go_simp; try with_reducible rfl
      (try simp only [Act.put, List.setIfInBounds_toArray, List.set_cons_zero, List.set_cons_succ])
      refine take_d (i := 13) (oi := _) (v := ?_) (some 24) rfl (by kernel_rfl) (by kernel_rfl) (by kernel_rfl) (fun _ _ _ h => h) (Or.inl ⟨by rfl, ?_⟩) (by assumption) (by kernel_rfl) ?_
      rotate_left
      · intro w hSw; (try dsimp only at hSw); go_simp; try with_reducible rfl
      (try simp only [Act.put, List.setIfInBounds_toArray, List.set_cons_zero, List.set_cons_succ])
      refine take_d (i := 14) (oi := _) (v := ?_) (some 25) rfl (by kernel_rfl) (by kernel_rfl) (by kernel_rfl) (fun _ _ _ h => h) (Or.inl ⟨by rfl, ?_⟩) (by assumption) (by kernel_rfl) ?_
      rotate_left
      · intro w hSw; (try dsimp only at hSw); go_simp; try with_reducible rfl
      (try simp only [Act.put, List.setIfInBounds_toArray, List.set_cons_zero, List.set_cons_succ])
      refine wpAnyH_ready (rs := [15]) (by kernel_rfl) (by simp) ?_
      refine AllReadyH.cons (o := _) rfl (fun K hK => ?_) AllReadyH.nil
      go_simp
      go_at_call 89
      refine (HC4.out _ hHeld.1).mono ?_
      rintro e w6 ⟨rfl, hb6⟩
      have hbn := below_chain7 (a := w3) hHeld.1 hb6
      obtain ⟨hd0, hd1, hd2, hd3⟩ := HCX.out _ hbn
      clear hb6
      try go_wp2_with fail
      refine hK.out _ _ (by (try dsimp only); go_keep) (fun hHeld => ?_)
      clear hK K
      (try simp only [Act.put, List.setIfInBounds_toArray, List.set_cons_zero, List.set_cons_succ])
      refine take_d (i := 16) (oi := _) (v := ?_) (some 27) rfl (by kernel_rfl) (by kernel_rfl) (by kernel_rfl) (fun _ _ _ h => h) (Or.inl ⟨by rfl, ?_⟩) (by assumption) (by kernel_rfl) ?_
      rotate_left
      · intro w hSw; (try dsimp only at hSw); go_simp; try with_reducible rfl
      (try simp only [Act.put, List.setIfInBounds_toArray, List.set_cons_zero, List.set_cons_succ])
      refine take_d (i := 17) (oi := _) (v := ?_) (some 28) rfl (by kernel_rfl) (by kernel_rfl) (by kernel_rfl) (fun _ _ _ h => h) (Or.inl ⟨by rfl, ?_⟩) (by assumption) (by kernel_rfl) ?_
      rotate_left
      · intro w hSw; (try dsimp only at hSw); go_simp; try with_reducible rfl
      (try simp only [Act.put, List.setIfInBounds_toArray, List.set_cons_zero, List.set_cons_succ])
      refine take_d (i := 18) (oi := _) (v := ?_) (some 29) rfl (by kernel_rfl) (by kernel_rfl) (by kernel_rfl) (fun _ _ _ h => h) (Or.inl ⟨by rfl, ?_⟩) (by assumption) (by kernel_rfl) ?_
      rotate_left
      · intro w hSw; (try dsimp only at hSw); go_simp; try with_reducible rfl
      (try simp only [Act.put, List.setIfInBounds_toArray, List.set_cons_zero, List.set_cons_succ])
      refine take_d (i := 19) (oi := _) (v := ?_) (some 30) rfl (by kernel_rfl) (by kernel_rfl) (by kernel_rfl) (fun _ _ _ h => h) (Or.inl ⟨by rfl, ?_⟩) (by assumption) (by kernel_rfl) ?_
      rotate_left
      · intro w hSw; (try dsimp only at hSw); go_simp; try with_reducible rfl
      (try simp only [Act.put, List.setIfInBounds_toArray, List.set_cons_zero, List.set_cons_succ])
      refine take_d (i := 20) (oi := _) (v := ?_) (some 31) rfl (by kernel_rfl) (by kernel_rfl) (by kernel_rfl) (fun _ _ _ h => h) (Or.inl ⟨by rfl, ?_⟩) (by assumption) (by kernel_rfl) ?_
      rotate_left
      · intro w hSw; (try dsimp only at hSw); go_simp; try with_reducible rfl
      (try simp only [Act.put, List.setIfInBounds_toArray, List.set_cons_zero, List.set_cons_succ])
      refine wpAnyH_ready (rs := [21]) (by kernel_rfl) (by simp) ?_
      refine AllReadyH.cons (o := _) rfl (fun K hK => ?_) AllReadyH.nil
      go_simp
      go_at_call 89
      refine (HC5.out _ hHeld.1).mono ?_
      rintro e w6 ⟨rfl, hb6⟩
      have hbn := below_chain7 (a := w3) hHeld.1 hb6
      obtain ⟨hd0, hd1, hd2, hd3⟩ := HCX.out _ hbn
      clear hb6
      try go_wp2_with fail
      refine hK.out _ _ (by (try dsimp only); go_keep) (fun hHeld => ?_)
      clear hK K
      (try simp only [Act.put, List.setIfInBounds_toArray, List.set_cons_zero, List.set_cons_succ])
      refine take_d (i := 22) (oi := _) (v := ?_) (some 33) rfl (by kernel_rfl) (by kernel_rfl) (by kernel_rfl) (fun _ _ _ h => h) (Or.inl ⟨by rfl, ?_⟩) (by assumption) (by kernel_rfl) ?_
      rotate_left
      · intro w hSw; (try dsimp only at hSw); go_simp; try with_reducible rfl
      (try simp only [Act.put, List.setIfInBounds_toArray, List.set_cons_zero, List.set_cons_succ])
      refine take_d (i := 23) (oi := _) (v := ?_) (some 4) rfl (by kernel_rfl) (by kernel_rfl) (by kernel_rfl) (fun _ _ _ h => h) (Or.inl ⟨by rfl, ?_⟩) (by assumption) (by kernel_rfl) ?_
      rotate_left
      · intro w hSw; (try dsimp only at hSw); go_simp; try with_reducible rfl
      (try simp only [Act.put, List.setIfInBounds_toArray, List.set_cons_zero, List.set_cons_succ])
      refine wpAnyH_done (by kernel_rfl) ?_ _
      have HF := Lib.hid hHeld.1
      have HQB : Hid (Below w.heap.size w _) := HQ.out ▸ (HB3.out.trans (HF.out.mono HQ3.out))
      clear hHeld hbn hd0 hd1 hd2 hd3
      go_wp2_with fail
      go_ret
      exact ⟨by rw [HBB.out]; rfl, HQB.out⟩
end Go.Proofs.YtnimbgcploohiaaGreat
set_option linter.unusedVariables false
set_option linter.unusedSimpArgs false
namespace Go.Proofs.YtnimbgcploohiaaGreat
open Go.RowKit
theorem balanced_any {A : Ar} {a b : Option Addr} {N c m d : Nat} (hok : A.σ.Ok) (ha : A.Agg) (hN : A.σ.cap = N) {i : Nat} {t : Tr} (h : Sub A i t) : BalSpec A a b N c m d i t := by
  induction h with
  | nil =>
    intro w hS
    have hb := below_new7 w (Obj.cells #[Value.slice a N c, Value.slice b m d] 40)
    have HB := Lib.hid hb
    have HF : Hid (balT A .nil = true) := rfl
    clear hS hb
    go_enter Tryz.func89, Tryz.ntmps89
    go_wp2_with fail
    go_ret
    exact ⟨by rw [HF.out]; rfl, HB.out⟩
  | node i l r h0 h1 hl hr ihl ihr => exact balanced_node hok ha hN h0 h1 hl hr ihl ihr
end Go.Proofs.YtnimbgcploohiaaGreat
set_option linter.unusedVariables false
set_option linter.unusedSimpArgs false
namespace Go.Proofs.YtnimbgcploohiaaGreat
open Go.RowKit
def errT (A : Ar) (t : Tr) : Int := match ordT A.nd t none with | none => 7 | some _ => if balT A t = true then 0 else 8
theorem slots_lt {w : World} {a : Option Addr} {N : Nat} {S : Nat → Sl} (h : SlotsAt w a N S) (hN : 1 ≤ N) : ∀ b off, a = some ⟨b, off, none⟩ → b < w.heap.size := fun b off e => by
  obtain ⟨b', off', ha, hlt, _⟩ := h.cell 0 (by omega)
  rw [e] at ha
  simp at ha
  rw [ha.1]; exact hlt
set_option maxHeartbeats 2000000 in
set_option maxRecDepth 100000 in
theorem refCheck_ok {A : Ar} {w : World} {a b : Option Addr} {N c m d i : Nat} {t : Tr} (hok : A.σ.Ok) (ha : A.Agg) (hN : A.σ.cap = N) (hS : SlotsAt w a N A.sl) (hs : Sub A i t) (h30 : N ≤ 65536) :
    Calls Tryz.prog 53 #[.agg #[.slice a N c, .slice b m d], .int .u32 (i : Int)] w (Calm w (.int .i64 (errT A t))) := by
  have hcap := hok.cap1
  have hi : i < 4294967296 := by
    rcases hs.idx with h | h
    · omega
    · have := hok.on i h; omega
  have hbn := below_new7 w (Obj.cells #[Value.slice a N c, Value.slice b m d] 40)
  have hbox := heap_alloc_new w (Obj.cells #[Value.slice a N c, Value.slice b m d] 40)
  have hcall := dallocated_any (b := b) (m := m) (d := d) (c := c) (hS.below hbn) (by omega) hi
  have HC := Lib.hid hcall
  have HB := Lib.hid hbn
  have HBOX := Lib.hid hbox
  have HS1 := Lib.hid (hS.below hbn)
  have HLT := Lib.hid (slots_lt hS (by omega))
  have HOK := Lib.hid hok
  have HAG := Lib.hid ha
  have HN := Lib.hid hN
  have HSB := Lib.hid hs
  have hdc : i ≠ 0 → decide (1 ≤ i ∧ i ≤ N ∧ (A.sl (i - 1)).on = true) = true := fun h0 => decide_eq_true (by rw [← hN]; exact (al_on hok i).2 (hs.idx.resolve_left h0))
  have HDC := Lib.hid hdc
  have HSZ : Hid (N ≤ 65536 ∧ 1 ≤ N) := ⟨h30, by omega⟩
  obtain ⟨hc0, hc1⟩ := two_cells hbox
  have hni : (N : Int) ≤ 65536 := by omega
  have hn0 : (0 : Int) ≤ (N : Int) := by omega
  have hw1 : IntKind.i64.wrap (2 * (N : Int)) = 2 * (N : Int) := by rw [IntKind.wrap_i64]; omega
  have hw2 : IntKind.i64.wrap (2 * (N : Int) + 2) = 2 * (N : Int) + 2 := by rw [IntKind.wrap_i64]; omega
  have hmid : ∃ X : World → Prop, X = (fun w1 => Below w.heap.size w w1 ∧ w1.heap[w.heap.size]? = some (.cells #[Value.slice a N c, Value.slice b m d] 40 (0, 0)) ∧ SlotsAt w1 a N A.sl) := ⟨_, rfl⟩
  clear hcall hbn hbox hS hok hN hcap ha hs hdc h30 hmid
  go_enter Tryz.func53, Tryz.ntmps53
  go_upto_region 1 with fail
  generalize w.alloc (Obj.cells #[Value.slice a N c, Value.slice b m d] 40) = w1 at HC HB HBOX HS1 hc0 hc1 ⊢
  obtain ⟨q0, hq0⟩ : ∃ q0, w.heap.size = q0 := ⟨_, rfl⟩
  rw [hq0] at HB HBOX HLT hc0 hc1 ⊢
  have HQ0 := Lib.hid hq0
  clear hq0
  go_cut [13] (fun s13 wx => s13 = .bool false ∧ Below w1.heap.size w1 wx)
  case first =>
    by_cases h0 : i = 0
    · subst h0
      go_wp2_with fail
      go_meet
      exact ⟨rfl, Below.refl _ _⟩
    · have hd := HDC.out h0
      have hC := HC.out
      rw [hd] at hC
      have HC2 := Lib.hid hC
      have hne : ((i : Int) == 0) = false := by simp; omega
      have hne3 : ¬ (i : Int) = 0 := by omega
      clear hd hC
      go_wp2_with fail
      refine HC2.out.mono ?_
      rintro e w2 ⟨rfl, hb2⟩
      have HB2 := Lib.hid hb2
      clear hb2
      go_wp2_with fail
      go_meet
      exact ⟨rfl, HB2.out⟩
  case' rest =>
    rename World => w2
    obtain ⟨rfl, hb2⟩ := hcut
    clear hc0 hc1 HC HDC
    have hq1 : q0 < w1.heap.size := (Array.getElem?_eq_some_iff.1 HBOX.out).1
    have hbox2 := (hb2.block q0 hq1).trans HBOX.out
    obtain ⟨hc0, hc1⟩ := two_cells hbox2
    have hbox3 := heap_alloc_new w2 (Obj.cells #[.slice a N c, .slice b m d, .int .i64 ((none : Option Int).getD 0), .bool (none : Option Int).isSome, .int .i64 (2 * (N : Int) + 2)] 126)
    have hb3 := below_new7 w2 (Obj.cells #[.slice a N c, .slice b m d, .int .i64 ((none : Option Int).getD 0), .bool (none : Option Int).isSome, .int .i64 (2 * (N : Int) + 2)] 126)
    have HW3 : Hid (WBox (w2.alloc (Obj.cells #[.slice a N c, .slice b m d, .int .i64 0, .bool false, .int .i64 (2 * (N : Int) + 2)] 126)) w2.heap.size a b N c m d none (2 * (N : Int) + 2)) := ⟨hbox3⟩
    have HB3 : Hid (Below q0 w (w2.alloc (Obj.cells #[.slice a N c, .slice b m d, .int .i64 0, .bool false, .int .i64 (2 * (N : Int) + 2)] 126))) := (HB.out.trans (hb2.mono (Nat.le_of_lt hq1))).trans (hb3.mono (by have := hb2.size; omega))
    have HS3 : Hid (SlotsAt (w2.alloc (Obj.cells #[.slice a N c, .slice b m d, .int .i64 0, .bool false, .int .i64 (2 * (N : Int) + 2)] 126)) a N A.sl) := (HS1.out.below hb2).below hb3
    have HX3 : Hid ((w2.alloc (Obj.cells #[.slice a N c, .slice b m d, .int .i64 0, .bool false, .int .i64 (2 * (N : Int) + 2)] 126)).heap[q0]? = some (.cells #[Value.slice a N c, Value.slice b m d] 40 (0, 0))) := (hb3.block q0 (by have := hb2.size; omega)).trans hbox2
    have HQ2 : Hid (q0 < w2.heap.size ∧ q0 ≤ w2.heap.size) := (by have := hb2.size; exact ⟨by omega, by omega⟩)
    have HSQ : Hid (∀ b off, a = some ⟨b, off, none⟩ → b ≠ w2.heap.size) := fun b off e => by have := HLT.out b off e; have := HQ2.out; omega
    clear hbox2 hbox3 hb2 hb3 hq1 HBOX HB HS1 HLT
    go_wp2_with fail
    generalize w2.alloc (Obj.cells #[.slice a N c, .slice b m d, .int .i64 0, .bool false, .int .i64 (2 * (N : Int) + 2)] 126) = w3 at HW3 HB3 HS3 HX3 ⊢
    generalize w2.heap.size = q2 at HW3 HQ2 HSQ ⊢
    have hsl : (A.above none : Int) + (t.ht : Int) ≤ 2 * (N : Int) + 2 := by
      have h1 := A.above_le none
      have h2 := HSB.out.ht_cap HOK.out HAG.out
      have h3 := HN.out
      omega
    refine (ordered_any HOK.out HN.out HSQ.out HSB.out none (2 * (N : Int) + 2) w3 HW3.out HS3.out hsl (by omega)).mono ?_
    rintro e w4 ⟨hb4, hres⟩
    have HB4 : Hid (Below q0 w w4) := HB3.out.trans (hb4.belowB (by have := HQ2.out; omega) (Nat.le_of_lt (Array.getElem?_eq_some_iff.1 HX3.out).1))
    have HX4 : Hid (w4.heap[q0]? = some (.cells #[Value.slice a N c, Value.slice b m d] 40 (0, 0))) := hb4.row HX3.out (by have := HQ2.out; omega)
    have HS4 : Hid (SlotsAt w4 a N A.sl) := HS3.out.but hb4 HSQ.out
    clear hb4 hsl HB3 HX3 HS3 HW3 hc0 hc1
    rcases hres with ⟨s', mo', rfl, ho, _, _, _⟩ | ⟨rfl, ho⟩
    · have HE : Hid (errT A t = if balT A t = true then 0 else 8) := by
        show errT A t = _
        unfold errT
        rw [ho]
      clear ho
      obtain ⟨hc0, hc1⟩ := two_cells HX4.out
      go_wp2_with fail
      refine (balanced_any HOK.out HAG.out HN.out HSB.out w4 HS4.out).mono ?_
      rintro e w5 ⟨rfl, hb5⟩
      have HB5 : Hid (Below w.heap.size w w5) := by
        show Below w.heap.size w w5
        rw [HQ0.out]
        exact HB4.out.trans (hb5.mono (Nat.le_of_lt (Array.getElem?_eq_some_iff.1 HX4.out).1))
      clear hb5 hc0 hc1
      cases hB : balT A t
      · have HF : Hid (errT A t = 8) := by
          show errT A t = 8
          rw [HE.out, hB]; rfl
        clear hB
        go_wp2_with fail
        go_ret
        exact ⟨by rw [HF.out]; rfl, HB5.out⟩
      · have HF : Hid (errT A t = 0) := by
          show errT A t = 0
          rw [HE.out, hB]; rfl
        clear hB
        go_wp2_with fail
        go_ret
        exact ⟨by rw [HF.out]; rfl, HB5.out⟩
    · have HF : Hid (errT A t = 7) := by
        show errT A t = 7
        unfold errT
        rw [ho]
      have HB5 : Hid (Below w.heap.size w w4) := by
        show Below w.heap.size w w4
        rw [HQ0.out]
        exact HB4.out
      clear ho
      go_wp2_with fail
      go_ret
      exact ⟨by rw [HF.out]; rfl, HB5.out⟩
end Go.Proofs.YtnimbgcploohiaaGreat
set_option linter.unusedVariables false
set_option linter.unusedSimpArgs false
namespace Go.Proofs.YtnimbgcploohiaaGreat
open Go.RowKit
theorem tree_errI {A : Ar} {i : Nat} {t : Tr} {l : List En} (h : TreeAt A i t l) : errT A t = 0 := by
  have hu : Asc none (t.keys A.nd) := by rw [Tr.ents_keys, h.ents]; exact up_asc l none h.up (fun k hk => by cases hk)
  unfold errT
  rw [(ordT_spec A.nd t none).1 hu]
  show (if balT A t = true then (0 : Int) else 8) = 0
  rw [if_pos (by rw [balT_bal h.agg h.sub]; exact h.bal)]
set_option maxHeartbeats 4000000 in
set_option maxRecDepth 100000 in
theorem refTree_any {A : Ar} {w : World} {a b la : Option Addr} {N c m d i L lc : Nat} {t : Tr} {l : List En} {held : Nat → Nat} (hv : A.Inv [] held) (hN : A.σ.cap = N) (hS : SlotsAt w a N A.sl) (hT : TreeAt A i t l) (hE : EnsAt w la l) (hL : l.length = L) (hl : L ≤ 65536) :
    Calls Tryz.prog 22 #[.agg #[.slice a N c, .slice b m d], .int .u32 (i : Int), .slice la L lc] w (Calm w (.bool true)) := by
  have hb1 : Below w.heap.size w (w.alloc (Obj.cells #[.slice a N c, .slice b m d] 40)) := (Below.refl _ _).alloc (Nat.le_refl _) _
  have hx1 := heap_alloc_new w (Obj.cells #[.slice a N c, .slice b m d] 40)
  have hg1 : w.heap.size < (w.alloc (Obj.cells #[.slice a N c, .slice b m d] 40)).heap.size := by simp
  have hNN : N ≤ 65536 := by have := hv.ok.cap2; omega
  have HCK : Hid (∀ wx, Below w.heap.size w wx → Calls Tryz.prog 53 #[.agg #[.slice a N c, .slice b m d], .int .u32 (i : Int)] wx (Calm wx (.int .i64 0))) := fun wx hx => by
    have h := refCheck_ok (b := b) (c := c) (m := m) (d := d) hv.ok hT.agg hN (hS.below hx) hT.sub hNN
    rw [tree_errI hT] at h
    exact h
  have HND : Hid (∀ wx, Below w.heap.size w wx → Calls Tryz.prog 54 #[.agg #[.slice a N c, .slice b m d], .int .u32 (i : Int)] wx (Calm wx (.agg (ndRow (A.nz i))))) := fun wx hx => refNode_any (hS.below hx) hv.ok hN hT.idx
  have HSZ : Hid ((A.nz i).size = (L : Int)) := by show _ = _; rw [nz_size hT.sub.idx hv.ok, hT.sub.size hT.agg, hT.size, hL]
  have HLI : Hid (∀ wx, Below w.heap.size w wx → Calls Tryz.prog 55 #[.agg #[.slice a N c, .slice b m d], .int .u32 (i : Int)] wx (MadeEns wx l)) := fun wx hx => by
    have h := listT_any hv.ok hT.sub wx a b N c m d hN (hS.below hx) (by rw [hT.size, hL]; omega)
    rw [hT.ents] at h
    exact h
  have HE := Lib.hid hE
  have HL := Lib.hid hL
  have HX1 := Lib.hid hx1
  have HG1 := Lib.hid hg1
  have HB1 := Lib.hid hb1
  have hli : (L : Int) ≤ 65536 := by omega
  clear hv hN hS hT hE hL hx1 hg1 hb1 hNN
  go_enter Tryz.func22, Tryz.ntmps22
  go_upto_region 1 with fail
  generalize w.alloc (Obj.cells #[.slice a N c, .slice b m d] 40) = w1 at HX1 HG1 HB1 ⊢
  generalize hg : w.heap.size = g at HX1 HG1 ⊢
  have HC : Hid (∀ wx, Below w1.heap.size w1 wx → wx.cell? ⟨g, 0, none⟩ = some (.slice a N c) ∧ wx.cell? ⟨g, 1, none⟩ = some (.slice b m d)) := fun wx hb => two_cells ((hb.block g HG1.out).trans HX1.out)
  have HW : Hid (∀ wx, Below w1.heap.size w1 wx → Below w.heap.size w wx) := fun wx hb => HB1.out.trans (hb.mono HB1.out.size)
  clear hg
  obtain ⟨c0, c1⟩ := HC.out w1 (Below.refl _ _)
  go_wp2_with fail
  refine (HCK.out w1 HB1.out).mono ?_
  rintro e w2 ⟨rfl, hb2⟩
  have HB2 := Lib.hid hb2
  clear hb2 c0 c1
  obtain ⟨c0, c1⟩ := HC.out w2 HB2.out
  go_wp2_with fail
  refine (HND.out w2 (HW.out _ HB2.out)).mono ?_
  rintro e w3 ⟨rfl, hb3⟩
  have HB3 : Hid (Below w1.heap.size w1 w3) := HB2.out.trans (hb3.mono HB2.out.size)
  clear hb3 c0 c1 HB2
  obtain ⟨c0, c1⟩ := HC.out w3 HB3.out
  unfold ndRow
  rw [HSZ.out]
  have hrs := run_size (.int .i64 (A.nz i).key) (.int .i64 (A.nz i).val) (.int .u32 ((A.nz i).left : Int)) (.int .u32 ((A.nz i).right : Int)) (.int .i64 (L : Int)) (.int .i64 (A.nz i).sum) (.int .i64 (A.nz i).mn) (.int .i64 (A.nz i).mx) w3
  go_wp2_with fail
  refine (HLI.out w3 (HW.out _ HB3.out)).mono ?_
  rintro e w4 hme
  clear hrs c0 c1
  have HWF : Hid (∀ y ∈ l, i64R y.key ∧ i64R y.val) := fun y hy => HE.out.wf y hy
  obtain ⟨a4, c4, rfl, hE4, hb4⟩ := made_ens hme HWF.out HL.out
  have HB4 : Hid (Below w1.heap.size w1 w4) := HB3.out.trans (hb4.mono HB3.out.size)
  have HE4 := Lib.hid hE4
  have HE0 := Lib.hid (HE.out.below (HW.out _ HB4.out))
  clear hme hE4 hb4 HB3
  go_wp2_with fail
  go_loopw [8] (fun x wr => ∃ k : Nat, k ≤ L ∧ x = .int .i64 (k : Int) ∧ ∃ q, wr = w4.drewN q) (fun x _ => L - (intOf x).toNat)
  case atStart => exact ⟨0, Nat.zero_le _, rfl, 0, rfl⟩
  case round =>
    obtain ⟨k, hk, rfl, q, rfl⟩ := hrel
    by_cases hlt : k < L
    · have hki : (k : Int) < (L : Int) := by omega
      have hk0 : (0 : Int) ≤ (k : Int) := by omega
      obtain ⟨e, he⟩ : ∃ e, l[k]? = some e := ⟨_, List.getElem?_eq_getElem (by have := HL.out; omega)⟩
      obtain ⟨g1, off, rfl, hb, c0, c1⟩ := HE0.out.at he
      obtain ⟨g2, off', rfl, hb', d0, d1⟩ := HE4.out.at he
      generalize e.key = x0 at c0 d0
      generalize e.val = x1 at c1 d1
      have HLT := Lib.hid hlt
      clear he hb hb' hk hlt
      go_wp2_with fail
      go_quiet (fail)
      go_wp2_with fail
      exact ⟨⟨k + 1, by have := HLT.out; omega, by go_num, _, rfl⟩, by have := HLT.out; simp [intOf]; omega⟩
    · have hki : ¬ (k : Int) < (L : Int) := by omega
      clear hlt hk
      go_wp2_with fail
      go_ret
      exact ⟨rfl, below_drewN (HW.out _ HB4.out) q⟩
end Go.Proofs.YtnimbgcploohiaaGreat
set_option linter.unusedVariables false
namespace Go.Proofs.YtnimbgcploohiaaGreat
end Go.Proofs.YtnimbgcploohiaaGreat
set_option linter.unusedVariables false
set_option linter.unusedSimpArgs false
namespace Go.Proofs.YtnimbgcploohiaaGreat
open Go.RowKit
/-- a number of spare slots, whatever it is -/
def SpareQ (need : Int) (w : World) (e : Ending) (w' : World) : Prop := ∃ sp : Nat, e = .returned (.int .i64 (sp : Int)) ∧ (sp : Int) ≤ need + 8 ∧ w' = w
end Go.Proofs.YtnimbgcploohiaaGreat
set_option linter.unusedVariables false
set_option linter.unusedSimpArgs false
namespace Go.Proofs.YtnimbgcploohiaaGreat
open Go.RowKit
end Go.Proofs.YtnimbgcploohiaaGreat
set_option linter.unusedVariables false
set_option linter.unusedSimpArgs false
namespace Go.Proofs.YtnimbgcploohiaaGreat
open Go.RowKit
end Go.Proofs.YtnimbgcploohiaaGreat
set_option linter.unusedVariables false
set_option linter.unusedSimpArgs false
namespace Go.Proofs.YtnimbgcploohiaaGreat
open Go.RowKit
theorem two_alloc (w : World) (x y : Array Value) (ty : TypeId) : ((w.alloc (.cells x ty)).alloc (.cells y ty)).drew.heap[w.heap.size]? = some (.cells x ty (0, 0)) ∧ ((w.alloc (.cells x ty)).alloc (.cells y ty)).drew.heap[w.heap.size + 1]? = some (.cells y ty (0, 0)) ∧ Below w.heap.size w ((w.alloc (.cells x ty)).alloc (.cells y ty)).drew := by
  have e1 : (w.alloc (.cells x ty)).heap.size = w.heap.size + 1 := by simp
  have h1 := heap_alloc_new w (.cells x ty)
  have h2 := heap_alloc_new (w.alloc (.cells x ty)) (.cells y ty)
  rw [e1] at h2
  have hb := below_newL (w.alloc (.cells x ty)) (.cells y ty)
  exact ⟨(hb.block _ (by omega)).trans h1, h2, ((below_newL w _).trans (hb.mono (by omega))).drew⟩
/-- every allocated slot is allocated later, with the same node and generation -/
def KeptS (n : Nat) (S T : Nat → Sl) : Prop := ∀ j, j < n → (S j).on = true → (T j).on = true ∧ (T j).nd = (S j).nd ∧ (T j).gen = (S j).gen
set_option maxHeartbeats 4000000 in
set_option maxRecDepth 100000 in
theorem kept_any {w : World} {a a' b b' : Option Addr} {n c c' m m' d d' : Nat} {S T : Nat → Sl} (h : SlotsAt w a n S) (h' : SlotsAt w a' n T) (hk : KeptS n S T) (hn : n ≤ 65536) :
    Calls Tryz.prog 23 #[.agg #[.slice a n c, .slice b m d], .agg #[.slice a' n c', .slice b' m' d']] w (Calm w (.bool true)) := by
  have hni : (n : Int) ≤ 65536 := by omega
  have HKK := Lib.hid hk
  have hx := (below_newL (w.alloc (Obj.cells #[.slice a n c, .slice b m d] 40)) (Obj.cells #[.slice a' n c', .slice b' m' d'] 40)).block w.heap.size (by simp) |>.trans (heap_alloc_new w (Obj.cells #[.slice a n c, .slice b m d] 40))
  have hy := heap_alloc_new (w.alloc (Obj.cells #[.slice a n c, .slice b m d] 40)) (Obj.cells #[.slice a' n c', .slice b' m' d'] 40)
  rw [show (w.alloc (Obj.cells #[.slice a n c, .slice b m d] 40)).heap.size = w.heap.size + 1 by simp] at hy
  have hb2 : Below w.heap.size w ((w.alloc (Obj.cells #[.slice a n c, .slice b m d] 40)).alloc (Obj.cells #[.slice a' n c', .slice b' m' d'] 40)) := (below_newL w _).trans ((below_newL _ _).mono (by simp))
  have hl2 : w.heap.size + 1 < ((w.alloc (Obj.cells #[.slice a n c, .slice b m d] 40)).alloc (Obj.cells #[.slice a' n c', .slice b' m' d'] 40)).heap.size := by simp
  have hS2 := h.below hb2
  have hT2 := h'.below hb2
  clear h h' hk
  go_enter Tryz.func23, Tryz.ntmps23
  go_upto_region 1 with fail
  generalize (w.alloc (Obj.cells #[.slice a n c, .slice b m d] 40)).alloc (Obj.cells #[.slice a' n c', .slice b' m' d'] 40) = w2 at hx hy hb2 hl2 hS2 hT2 ⊢
  obtain ⟨g1, hg1⟩ : ∃ g, w.heap.size = g := ⟨_, rfl⟩
  obtain ⟨g2, hg2⟩ : ∃ g, g1 + 1 = g := ⟨_, rfl⟩
  rw [hg1] at hx hy hl2 ⊢
  rw [hg2] at hy hl2 ⊢
  have HX := Lib.hid hx
  have HY := Lib.hid hy
  have HB2 := Lib.hid hb2
  have HL2 : Hid (g1 < w2.heap.size ∧ g2 < w2.heap.size) := ⟨by omega, hl2⟩
  have HS2 := Lib.hid hS2
  have HT2 := Lib.hid hT2
  clear hx hy hb2 hl2 hS2 hT2 hg1 hg2
  have HC : Hid (∀ wx, Below w2.heap.size w2 wx → wx.cell? ⟨g1, 0, none⟩ = some (.slice a n c) ∧ wx.cell? ⟨g2, 0, none⟩ = some (.slice a' n c')) := fun wx hb =>
    ⟨by rw [cell_of_row _ _ _ _ _ _ ((hb.block g1 HL2.out.1).trans HX.out)]; rfl, by rw [cell_of_row _ _ _ _ _ _ ((hb.block g2 HL2.out.2).trans HY.out)]; rfl⟩
  obtain ⟨c0, d0⟩ := HC.out w2 (Below.refl _ _)
  go_wp2_with fail
  clear c0 d0
  go_loopw [5] (fun i wr => ∃ k : Nat, k ≤ n ∧ i = .int .i64 (k : Int) ∧ Below w2.heap.size w2 wr) (fun i _ => n - (intOf i).toNat)
  case atStart => exact ⟨0, Nat.zero_le _, rfl, Below.refl _ _⟩
  case round =>
    obtain ⟨k, hk, rfl, hbr⟩ := hrel
    have HBR := Lib.hid hbr
    obtain ⟨c0, d0⟩ := HC.out wr hbr
    by_cases hlt : k < n
    · have hki : (k : Int) < (n : Int) := by omega
      have hk0 : (0 : Int) ≤ (k : Int) := by omega
      have HLT := Lib.hid hlt
      obtain ⟨p, off, hap, hp, s0, s1, s2, s3, s4, s5, s6, s7, s8, s9, s10⟩ := (HS2.out.below hbr).all hlt
      obtain ⟨p', off', hap', hp', t0, t1, t2, t3, t4, t5, t6, t7, t8, t9, t10⟩ := (HT2.out.below hbr).all hlt
      have HEQ : Hid ((S k).on = true → (T k).on = true ∧ (T k).gen = (S k).gen ∧ (T k).nd.key = (S k).nd.key ∧ (T k).nd.val = (S k).nd.val ∧ ((T k).nd.left : Int) = ((S k).nd.left : Int) ∧ ((T k).nd.right : Int) = ((S k).nd.right : Int) ∧ (T k).nd.size = (S k).nd.size ∧ (T k).nd.sum = (S k).nd.sum ∧ (T k).nd.mn = (S k).nd.mn ∧ (T k).nd.mx = (S k).nd.mx) := fun ho => by
        obtain ⟨e1, e2, e3⟩ := HKK.out k HLT.out ho
        rw [e2]
        exact ⟨e1, e3, rfl, rfl, rfl, rfl, rfl, rfl, rfl, rfl⟩
      generalize (S k).on = x0 at s0 HEQ
      generalize (S k).cnt = x1 at s1
      generalize (S k).gen = x2 at s2 HEQ
      generalize (S k).nd.key = x3 at s3 HEQ
      generalize (S k).nd.val = x4 at s4 HEQ
      generalize ((S k).nd.left : Int) = x5 at s5 HEQ
      generalize ((S k).nd.right : Int) = x6 at s6 HEQ
      generalize (S k).nd.size = x7 at s7 HEQ
      generalize (S k).nd.sum = x8 at s8 HEQ
      generalize (S k).nd.mn = x9 at s9 HEQ
      generalize (S k).nd.mx = x10 at s10 HEQ
      generalize (T k).on = y0 at t0 HEQ
      generalize (T k).cnt = y1 at t1
      generalize (T k).gen = y2 at t2 HEQ
      generalize (T k).nd.key = y3 at t3 HEQ
      generalize (T k).nd.val = y4 at t4 HEQ
      generalize ((T k).nd.left : Int) = y5 at t5 HEQ
      generalize ((T k).nd.right : Int) = y6 at t6 HEQ
      generalize (T k).nd.size = y7 at t7 HEQ
      generalize (T k).nd.sum = y8 at t8 HEQ
      generalize (T k).nd.mn = y9 at t9 HEQ
      generalize (T k).nd.mx = y10 at t10 HEQ
      subst hap
      subst hap'
      clear hk hlt hbr
      go_upto_region 6 with fail
      go_cut [6, 7] (fun s6 s7 wx => ∃ gx gy : Nat, s6 = .pointer (some ⟨gx, 0, none⟩) ∧ s7 = .pointer (some ⟨gy, 0, none⟩) ∧ wx.heap[gx]? = some (.cells #[.bool x0, .int .i64 x1, .int .u32 x2, .int .i64 x3, .int .i64 x4, .int .u32 x5, .int .u32 x6, .int .i64 x7, .int .i64 x8, .int .i64 x9, .int .i64 x10] 77 (0, 0)) ∧ wx.heap[gy]? = some (.cells #[.bool y0, .int .i64 y1, .int .u32 y2, .int .i64 y3, .int .i64 y4, .int .u32 y5, .int .u32 y6, .int .i64 y7, .int .i64 y8, .int .i64 y9, .int .i64 y10] 77 (0, 0)) ∧ Below wr.heap.size wr wx)
      case first =>
        obtain ⟨c0, d0⟩ := HC.out wr.drew HBR.out.drew
        go_region_held3 (fun w' => w'.cell? ⟨g1, 0, none⟩ = some (.slice (some ⟨p, off, none⟩) n c) ∧ w'.cell? ⟨g2, 0, none⟩ = some (.slice (some ⟨p', off', none⟩) n c') ∧ w'.cell? ⟨p, off + k * 11, none⟩ = some (.bool x0) ∧ w'.cell? ⟨p, off + k * 11 + 1, none⟩ = some (.int .i64 x1) ∧ w'.cell? ⟨p, off + k * 11 + 2, none⟩ = some (.int .u32 x2) ∧ w'.cell? ⟨p, off + k * 11 + 3, none⟩ = some (.int .i64 x3) ∧ w'.cell? ⟨p, off + k * 11 + 4, none⟩ = some (.int .i64 x4) ∧ w'.cell? ⟨p, off + k * 11 + 5, none⟩ = some (.int .u32 x5) ∧ w'.cell? ⟨p, off + k * 11 + 6, none⟩ = some (.int .u32 x6) ∧ w'.cell? ⟨p, off + k * 11 + 7, none⟩ = some (.int .i64 x7) ∧ w'.cell? ⟨p, off + k * 11 + 8, none⟩ = some (.int .i64 x8) ∧ w'.cell? ⟨p, off + k * 11 + 9, none⟩ = some (.int .i64 x9) ∧ w'.cell? ⟨p, off + k * 11 + 10, none⟩ = some (.int .i64 x10) ∧ w'.cell? ⟨p', off' + k * 11, none⟩ = some (.bool y0) ∧ w'.cell? ⟨p', off' + k * 11 + 1, none⟩ = some (.int .i64 y1) ∧ w'.cell? ⟨p', off' + k * 11 + 2, none⟩ = some (.int .u32 y2) ∧ w'.cell? ⟨p', off' + k * 11 + 3, none⟩ = some (.int .i64 y3) ∧ w'.cell? ⟨p', off' + k * 11 + 4, none⟩ = some (.int .i64 y4) ∧ w'.cell? ⟨p', off' + k * 11 + 5, none⟩ = some (.int .u32 y5) ∧ w'.cell? ⟨p', off' + k * 11 + 6, none⟩ = some (.int .u32 y6) ∧ w'.cell? ⟨p', off' + k * 11 + 7, none⟩ = some (.int .i64 y7) ∧ w'.cell? ⟨p', off' + k * 11 + 8, none⟩ = some (.int .i64 y8) ∧ w'.cell? ⟨p', off' + k * 11 + 9, none⟩ = some (.int .i64 y9) ∧ w'.cell? ⟨p', off' + k * 11 + 10, none⟩ = some (.int .i64 y10)) (go_keep) (fail)
        all_goals (go_wp2_with fail; go_meet)
        · have h := two_alloc wr #[.bool x0, .int .i64 x1, .int .u32 x2, .int .i64 x3, .int .i64 x4, .int .u32 x5, .int .u32 x6, .int .i64 x7, .int .i64 x8, .int .i64 x9, .int .i64 x10] #[.bool y0, .int .i64 y1, .int .u32 y2, .int .i64 y3, .int .i64 y4, .int .u32 y5, .int .u32 y6, .int .i64 y7, .int .i64 y8, .int .i64 y9, .int .i64 y10] 77
          exact ⟨_, _, rfl, rfl, h.1, h.2.1, h.2.2⟩
        · have h := two_alloc wr #[.bool y0, .int .i64 y1, .int .u32 y2, .int .i64 y3, .int .i64 y4, .int .u32 y5, .int .u32 y6, .int .i64 y7, .int .i64 y8, .int .i64 y9, .int .i64 y10] #[.bool x0, .int .i64 x1, .int .u32 x2, .int .i64 x3, .int .i64 x4, .int .u32 x5, .int .u32 x6, .int .i64 x7, .int .i64 x8, .int .i64 x9, .int .i64 x10] 77
          exact ⟨_, _, rfl, rfl, h.2.1, h.1, h.2.2⟩
      case' rest =>
        rename World => w5
        obtain ⟨gx, gy, rfl, rfl, hgx, hgy, hb5⟩ := hcut
        have HB5 : Hid (Below w2.heap.size w2 w5) := HBR.out.trans (hb5.mono HBR.out.size)
        have cx : ∀ j v, #[.bool x0, .int .i64 x1, .int .u32 x2, .int .i64 x3, .int .i64 x4, .int .u32 x5, .int .u32 x6, .int .i64 x7, .int .i64 x8, .int .i64 x9, .int .i64 x10][j]? = some v → w5.cell? ⟨gx, j, none⟩ = some v := fun j v hj => by rw [cell_of_row _ _ _ _ _ _ hgx]; exact hj
        have cy : ∀ j v, #[.bool y0, .int .i64 y1, .int .u32 y2, .int .i64 y3, .int .i64 y4, .int .u32 y5, .int .u32 y6, .int .i64 y7, .int .i64 y8, .int .i64 y9, .int .i64 y10][j]? = some v → w5.cell? ⟨gy, j, none⟩ = some v := fun j v hj => by rw [cell_of_row _ _ _ _ _ _ hgy]; exact hj
        have s0 : w5.cell? ⟨gx, 0, none⟩ = some (.bool x0) := cx 0 _ rfl
        have t0 : w5.cell? ⟨gy, 0, none⟩ = some (.bool y0) := cy 0 _ rfl
        have s1 : w5.cell? ⟨gx, 1, none⟩ = some (.int .i64 x1) := cx 1 _ rfl
        have t1 : w5.cell? ⟨gy, 1, none⟩ = some (.int .i64 y1) := cy 1 _ rfl
        have s2 : w5.cell? ⟨gx, 2, none⟩ = some (.int .u32 x2) := cx 2 _ rfl
        have t2 : w5.cell? ⟨gy, 2, none⟩ = some (.int .u32 y2) := cy 2 _ rfl
        have s3 : w5.cell? ⟨gx, 3, none⟩ = some (.int .i64 x3) := cx 3 _ rfl
        have t3 : w5.cell? ⟨gy, 3, none⟩ = some (.int .i64 y3) := cy 3 _ rfl
        have s4 : w5.cell? ⟨gx, 4, none⟩ = some (.int .i64 x4) := cx 4 _ rfl
        have t4 : w5.cell? ⟨gy, 4, none⟩ = some (.int .i64 y4) := cy 4 _ rfl
        have s5 : w5.cell? ⟨gx, 5, none⟩ = some (.int .u32 x5) := cx 5 _ rfl
        have t5 : w5.cell? ⟨gy, 5, none⟩ = some (.int .u32 y5) := cy 5 _ rfl
        have s6 : w5.cell? ⟨gx, 6, none⟩ = some (.int .u32 x6) := cx 6 _ rfl
        have t6 : w5.cell? ⟨gy, 6, none⟩ = some (.int .u32 y6) := cy 6 _ rfl
        have s7 : w5.cell? ⟨gx, 7, none⟩ = some (.int .i64 x7) := cx 7 _ rfl
        have t7 : w5.cell? ⟨gy, 7, none⟩ = some (.int .i64 y7) := cy 7 _ rfl
        have s8 : w5.cell? ⟨gx, 8, none⟩ = some (.int .i64 x8) := cx 8 _ rfl
        have t8 : w5.cell? ⟨gy, 8, none⟩ = some (.int .i64 y8) := cy 8 _ rfl
        have s9 : w5.cell? ⟨gx, 9, none⟩ = some (.int .i64 x9) := cx 9 _ rfl
        have t9 : w5.cell? ⟨gy, 9, none⟩ = some (.int .i64 y9) := cy 9 _ rfl
        have s10 : w5.cell? ⟨gx, 10, none⟩ = some (.int .i64 x10) := cx 10 _ rfl
        have t10 : w5.cell? ⟨gy, 10, none⟩ = some (.int .i64 y10) := cy 10 _ rfl
        clear cx cy hgx hgy hb5 c0 d0
        cases x0 with
        | false =>
          clear HEQ
          go_wp2_with fail
          exact ⟨⟨k + 1, by have := HLT.out; omega, by go_num, HB5.out⟩, by have := HLT.out; simp [intOf]; omega⟩
        | true =>
          obtain ⟨rfl, rfl, rfl, rfl, rfl, rfl, rfl, rfl, rfl, rfl⟩ := HEQ.out rfl
          clear HEQ
          have e2 : (y2 == y2) = true := by simp
          have f2 : (y2 != y2) = false := by simp
          have e3 : (y3 == y3) = true := by simp
          have f3 : (y3 != y3) = false := by simp
          have e4 : (y4 == y4) = true := by simp
          have f4 : (y4 != y4) = false := by simp
          have e5 : (y5 == y5) = true := by simp
          have f5 : (y5 != y5) = false := by simp
          have e6 : (y6 == y6) = true := by simp
          have f6 : (y6 != y6) = false := by simp
          have e7 : (y7 == y7) = true := by simp
          have f7 : (y7 != y7) = false := by simp
          have e8 : (y8 == y8) = true := by simp
          have f8 : (y8 != y8) = false := by simp
          have e9 : (y9 == y9) = true := by simp
          have f9 : (y9 != y9) = false := by simp
          have e10 : (y10 == y10) = true := by simp
          have f10 : (y10 != y10) = false := by simp
          go_wp2_with fail
          exact ⟨⟨k + 1, by have := HLT.out; omega, by go_num, HB5.out⟩, by have := HLT.out; simp [intOf]; omega⟩
    · obtain rfl : k = n := by omega
      clear hk hlt
      go_wp2_with fail
      go_ret
      exact ⟨rfl, HB2.out.trans (HBR.out.mono HB2.out.size)⟩
end Go.Proofs.YtnimbgcploohiaaGreat
set_option linter.unusedVariables false
namespace Go.Proofs.YtnimbgcploohiaaGreat
open Go.RowKit
set_option maxHeartbeats 2000000 in
set_option maxRecDepth 100000 in
theorem same_slots {w : World} {a a' : Option Addr} {n c c' : Nat} {S : Nat → Sl} (h : SlotsAt w a n S) (h' : SlotsAt w a' n S) (hn : n ≤ 65536) :
    Calls Tryz.prog 51 #[.slice a n c, .slice a' n c'] w (Calm w (.bool true)) := by
  have hni : (n : Int) ≤ 65536 := by omega
  have HH := Lib.hid h
  have HH' := Lib.hid h'
  clear h h'
  go_enter Tryz.func51, Tryz.ntmps51
  go_wp2
  go_loopw [5] (fun i wr => ∃ k : Nat, k ≤ n ∧ i = .int .i64 (k : Int) ∧ ∃ d, wr = w.drewN d) (fun i _ => n - (intOf i).toNat)
  case atStart => exact ⟨0, Nat.zero_le _, rfl, 0, rfl⟩
  case round =>
    obtain ⟨k, hk, rfl, d, rfl⟩ := hrel
    by_cases hlt : k < n
    · have hki : (k : Int) < (n : Int) := by omega
      have hk0 : (0 : Int) ≤ (k : Int) := by omega
      obtain ⟨b, off, rfl, hb, d0, d1, d2, d3, d4, d5, d6, d7, d8, d9, d10⟩ := HH.out.all hlt
      obtain ⟨b', off', rfl, hb', e0, e1, e2, e3, e4, e5, e6, e7, e8, e9, e10⟩ := HH'.out.all hlt
      generalize (S k).on = x0 at d0 e0
      generalize (S k).cnt = x1 at d1 e1
      generalize (S k).gen = x2 at d2 e2
      generalize (S k).nd.key = x3 at d3 e3
      generalize (S k).nd.val = x4 at d4 e4
      generalize ((S k).nd.left : Int) = x5 at d5 e5
      generalize ((S k).nd.right : Int) = x6 at d6 e6
      generalize (S k).nd.size = x7 at d7 e7
      generalize (S k).nd.sum = x8 at d8 e8
      generalize (S k).nd.mn = x9 at d9 e9
      generalize (S k).nd.mx = x10 at d10 e10
      go_wp2
      go_quiet (fail)
      go_wp2
      exact ⟨⟨k + 1, by omega, by go_num, _, rfl⟩, by simp [intOf]; omega⟩
    · obtain rfl : k = n := by omega
      go_wp2
      go_ret
      exact ⟨rfl, below_drewN (Below.refl _ _) d⟩
end Go.Proofs.YtnimbgcploohiaaGreat
set_option linter.unusedVariables false
namespace Go.Proofs.YtnimbgcploohiaaGreat
open Go.RowKit
theorem u32s_nth {l : List Nat} {j : Nat} (h : j < l.length) : (u32s l)[j]? = some (.int .u32 ((l.getD j 0 : Nat) : Int)) := by
  simp [u32s, List.getD_eq_getElem?_getD, h]
set_option maxHeartbeats 400000 in
theorem same_rows {B B' : Nat} {a a' : Option Addr} {c c' : Nat} (l : List Nat) (w : World) (hl : (l.length : Int) ≤ 65536) (h : w.ownsRow B 28 1 (.slice a l.length c) l.length (u32s l)) (h' : w.ownsRow B' 28 1 (.slice a' l.length c') l.length (u32s l)) :
    Calls Tryz.prog 52 #[.slice a l.length c, .slice a' l.length c'] w (Calm w (.bool true)) := by
  have HH := Lib.hid h
  have HH' := Lib.hid h'
  clear h h'
  obtain ⟨n, hn⟩ : ∃ n, n = l.length := ⟨_, rfl⟩
  rw [← hn] at hl ⊢
  have HN := Lib.hid hn
  clear hn
  go_enter Tryz.func52, Tryz.ntmps52
  go_wp2
  go_loopw [5] (fun i wr => ∃ k : Nat, k ≤ n ∧ i = .int .i64 k ∧ ∃ q, wr = w.drewN q) (fun i _ => n - (intOf i).toNat)
  case atStart => exact ⟨0, Nat.zero_le _, rfl, 0, rfl⟩
  case round =>
    obtain ⟨k, hk, rfl, q, rfl⟩ := hrel
    by_cases hlt : k < n
    · have hk2 : k < l.length := by rw [← HN.out]; exact hlt
      obtain ⟨b, rfl, hbb, hc⟩ := row_cell HH.out hk2
      obtain ⟨b', rfl, hbb', hc'⟩ := row_cell HH'.out hk2
      rw [u32s_nth hk2] at hc hc'
      have hlt' : (k : Int) < (n : Int) := by omega
      have hk0 : (0 : Int) ≤ (k : Int) := by omega
      generalize ((l.getD k 0 : Nat) : Int) = x at hc hc'
      have hne : (x != x) = false := by simp
      clear hk2
      go_wp2
      go_quiet (fail)
      go_wp2
      exact ⟨⟨k + 1, by omega, by go_num, _, rfl⟩, by simp [intOf]; omega⟩
    · obtain rfl : k = n := by omega
      go_wp2
      go_ret
      exact ⟨rfl, below_drewN (Below.refl _ _) q⟩
end Go.Proofs.YtnimbgcploohiaaGreat
