/- A slice of slots that came in, field by field; a dump that came in. -/
import Derived.Test.YticmaddcomemhaaDumpB
import Derived.Test.YticmaddcomemhaaOwn
set_option linter.unusedVariables false
namespace Go.Proofs.Yticmaddcomemhaa
open Go.RowKit
open Go.Deep in
/-- the cells of every element of a slice of structs -/
theorem elems_in {H : Type} {enc : TypeId × Value → H} {P : Program} {W : World} {t e : TypeId} {C : Nat} {a : Option Addr} {n cap fuel : Nat} {x : DataW H × List MemPlace}
    (ht : P.underlying t = some (.slice e)) (hC : P.cellsOf e = C) (hC0 : 0 < C)
    (h : DataW.trod enc P W 0 (fun _ => true) true fuel t (Value.slice a n cap).cells.toList = some x) :
    n ≤ cap ∧ cap ≤ maxLen ∧ ∀ i, i < n → ∃ b off cs m y, a = some ⟨b, off, none⟩ ∧ b < W.heap.size ∧ cs.length = C ∧ (∀ j v, cs[j]? = some v → W.cell? ⟨b, off + i * C + j, none⟩ = some v) ∧ DataW.trod enc P W 0 (fun _ => true) true m e cs = some y := by
  rcases open_slice ht h with ⟨hcs, _⟩ | ⟨a', n', cap', m, k, D, Pl, hcs, _, hl, hm, hmm, _, hx⟩
  · simp [Value.cells] at hcs
    obtain ⟨rfl, rfl, rfl⟩ := hcs
    exact ⟨Nat.le_refl _, Nat.zero_le _, fun i hi => by omega⟩
  · simp [Value.cells] at hcs
    obtain ⟨rfl, rfl, rfl⟩ := hcs
    simp only [if_true] at hmm
    refine ⟨hl, hm, fun i hi => ?_⟩
    have cell : ∀ i, i < n → ∃ cs m y, cs.length = C ∧ (∀ j v, cs[j]? = some v → W.cell? (a'.add (i * C + j)) = some v) ∧ DataW.trod enc P W 0 (fun _ => true) true m e cs = some y := fun i hi => by
      obtain ⟨cs, h1, h2⟩ := hx i (by omega)
      rw [hC] at h1
      obtain ⟨_, hl2, hat⟩ := World.cells?_some h1
      refine ⟨cs, _, _, hl2, fun j v hj => ?_, h2⟩
      have hjl : j < C := by rw [← hl2]; exact (List.getElem?_eq_some_iff.1 hj).1
      have h4 := hat j hjl
      rw [hj, add_add] at h4
      exact h4
    obtain ⟨b, off, spot⟩ := a'
    have hspot : spot = none := by
      obtain ⟨cs, m, y, hlen, hc, _⟩ := cell 0 (by omega)
      have h3 := hc 0 (cs[0]'(by omega)) (List.getElem?_eq_getElem (by omega))
      simpa [Addr.add] using World.cell?_spot h3
    subst hspot
    obtain ⟨cs, m, y, hlen, hc, ht2⟩ := cell i hi
    have ea : ∀ j, (⟨b, off, none⟩ : Addr).add (i * C + j) = ⟨b, off + i * C + j, none⟩ := fun j => by unfold Addr.add; split <;> simp_all <;> omega
    have hc2 : ∀ j v, cs[j]? = some v → W.cell? ⟨b, off + i * C + j, none⟩ = some v := fun j v hj => by rw [← ea]; exact hc j v hj
    have h3 := hc2 0 (cs[0]'(by omega)) (List.getElem?_eq_getElem (by omega))
    exact ⟨b, off, cs, m, y, rfl, World.block_lt_of_cell? W _ h3, hlen, hc2, ht2⟩
theorem drop_one {cs : List Value} {k : Nat} {v : Value} (h : (cs.drop k).take 1 = [v]) : cs[k]? = some v := by
  cases hq : cs.drop k with
  | nil => rw [hq] at h; simp at h
  | cons a t =>
    rw [hq] at h
    simp at h
    have := congrArg (fun l => l[0]?) hq
    simp [List.getElem?_drop] at this
    rw [this, h]
/-- the numbers of a slot are numbers of their kinds -/
structure SlIn (s : Sl) : Prop where
  cnt : -9223372036854775808 ≤ s.cnt ∧ s.cnt ≤ 9223372036854775807
  gen : 0 ≤ s.gen ∧ s.gen < 4294967296
  key : -9223372036854775808 ≤ s.nd.key ∧ s.nd.key ≤ 9223372036854775807
  val : -9223372036854775808 ≤ s.nd.val ∧ s.nd.val ≤ 9223372036854775807
  left : s.nd.left < 4294967296
  right : s.nd.right < 4294967296
  size : -9223372036854775808 ≤ s.nd.size ∧ s.nd.size ≤ 9223372036854775807
  sum : -9223372036854775808 ≤ s.nd.sum ∧ s.nd.sum ≤ 9223372036854775807
  mn : -9223372036854775808 ≤ s.nd.mn ∧ s.nd.mn ≤ 9223372036854775807
  mx : -9223372036854775808 ≤ s.nd.mx ∧ s.nd.mx ≤ 9223372036854775807
theorem take_drop_get {cs : List Value} {k m j : Nat} {v : Value} (h : ((cs.drop k).take m)[j]? = some v) : cs[k + j]? = some v := by
  rw [List.getElem?_take] at h
  split at h
  · rw [List.getElem?_drop] at h; exact h
  · cases h
theorem slot_in {H : Type} {enc : TypeId × Value → H} {W : World} {m : Nat} {cs : List Value} {y : DataW H × List MemPlace} (h : DataW.trod enc Try.prog W 0 (fun _ => true) true m 46 cs = some y) :
    ∃ s : Sl, SlIn s ∧ cs = slV s := by
  obtain ⟨xs, n1, _, _, hlen, hxl, hg⟩ := DataW.trod_struct Try.underlying46 h
  have hC : Try.prog.cellsOf 46 = 11 := by kernel_rfl
  have hCn : Try.prog.cellsOf 44 = 8 := by kernel_rfl
  have hCb : Try.prog.cellsOf 4 = 1 := by kernel_rfl
  have hCi : Try.prog.cellsOf 3 = 1 := by kernel_rfl
  have hCu : Try.prog.cellsOf 32 = 1 := by kernel_rfl
  have hC6 : Try.prog.cellsOf 2 = 1 := by kernel_rfl
  rw [hC] at hlen
  have hx : ∀ i, i < 4 → ∃ z, xs[i]? = some z := fun i hi => ⟨xs[i]'(by rw [hxl]; exact hi), List.getElem?_eq_getElem _⟩
  obtain ⟨z0, hz0⟩ := hx 0 (by decide)
  obtain ⟨z1, hz1⟩ := hx 1 (by decide)
  obtain ⟨z2, hz2⟩ := hx 2 (by decide)
  obtain ⟨z3, hz3⟩ := hx 3 (by decide)
  have g0 := hg 0 _ rfl
  have g1 := hg 1 _ rfl
  have g2 := hg 2 _ rfl
  have g3 := hg 3 _ rfl
  rw [hz0] at g0
  rw [hz1] at g1
  rw [hz2] at g2
  rw [hz3] at g3
  obtain ⟨on, e0, _⟩ := DataW.trod_bool Try.underlying4 g0
  obtain ⟨cnt, e1, _, w1⟩ := DataW.trod_int Try.underlying3 g1
  obtain ⟨gen, e2, _, w2⟩ := DataW.trod_int Try.underlying32 g2
  obtain ⟨ys, n2, _, _, hlen2, hyl, hk⟩ := DataW.trod_struct Try.underlying44 g3
  have hy : ∀ i, i < 8 → ∃ z, ys[i]? = some z := fun i hi => ⟨ys[i]'(by rw [hyl]; exact hi), List.getElem?_eq_getElem _⟩
  obtain ⟨u0, hu0⟩ := hy 0 (by decide)
  obtain ⟨u1, hu1⟩ := hy 1 (by decide)
  obtain ⟨u2, hu2⟩ := hy 2 (by decide)
  obtain ⟨u3, hu3⟩ := hy 3 (by decide)
  obtain ⟨u4, hu4⟩ := hy 4 (by decide)
  obtain ⟨u5, hu5⟩ := hy 5 (by decide)
  obtain ⟨u6, hu6⟩ := hy 6 (by decide)
  obtain ⟨u7, hu7⟩ := hy 7 (by decide)
  have k0 := hk 0 _ rfl
  have k1 := hk 1 _ rfl
  have k2 := hk 2 _ rfl
  have k3 := hk 3 _ rfl
  have k4 := hk 4 _ rfl
  have k5 := hk 5 _ rfl
  have k6 := hk 6 _ rfl
  have k7 := hk 7 _ rfl
  rw [hu0] at k0
  rw [hu1] at k1
  rw [hu2] at k2
  rw [hu3] at k3
  rw [hu4] at k4
  rw [hu5] at k5
  rw [hu6] at k6
  rw [hu7] at k7
  obtain ⟨key, f0, _, v0⟩ := DataW.trod_int Try.underlying2 k0
  obtain ⟨val, f1, _, v1⟩ := DataW.trod_int Try.underlying2 k1
  obtain ⟨lf, f2, _, v2⟩ := DataW.trod_int Try.underlying32 k2
  obtain ⟨rg, f3, _, v3⟩ := DataW.trod_int Try.underlying32 k3
  obtain ⟨sz, f4, _, v4⟩ := DataW.trod_int Try.underlying3 k4
  obtain ⟨sm, f5, _, v5⟩ := DataW.trod_int Try.underlying2 k5
  obtain ⟨mn, f6, _, v6⟩ := DataW.trod_int Try.underlying2 k6
  obtain ⟨mx, f7, _, v7⟩ := DataW.trod_int Try.underlying2 k7
  have b2 := bounds_u32 v2
  have b3 := bounds_u32 v3
  have bg := bounds_u32 w2
  refine ⟨⟨on, cnt, gen, ⟨key, val, lf.toNat, rg.toNat, sz, sm, mn, mx⟩⟩, ⟨bounds_i64 w1, (by show (0 : Int) ≤ gen ∧ gen < 4294967296; omega), bounds_i64 v0, bounds_i64 v1, by show lf.toNat < _; omega, by show rg.toNat < _; omega, bounds_i64 v4, bounds_i64 v5, bounds_i64 v6, bounds_i64 v7⟩, ?_⟩
  have el : ((lf.toNat : Nat) : Int) = lf := Int.toNat_of_nonneg (by omega)
  have er : ((rg.toNat : Nat) : Int) = rg := Int.toNat_of_nonneg (by omega)
  have a0 : (cs.drop 0).take (Try.prog.cellsOf 4) = [.bool on] := e0
  rw [hCb] at a0
  have c0 := drop_one a0
  have a1 : (cs.drop 1).take (Try.prog.cellsOf 3) = [.int .i64 cnt] := e1
  rw [hCi] at a1
  have c1 := drop_one a1
  have a2 : (cs.drop 2).take (Try.prog.cellsOf 32) = [.int .u32 gen] := e2
  rw [hCu] at a2
  have c2 := drop_one a2
  have a3 : (((cs.drop 3).take (Try.prog.cellsOf 44)).drop 0).take (Try.prog.cellsOf 2) = [.int .i64 key] := f0
  rw [hCn, hC6] at a3
  have c3 := take_drop_get (drop_one a3)
  have a4 : (((cs.drop 3).take (Try.prog.cellsOf 44)).drop 1).take (Try.prog.cellsOf 2) = [.int .i64 val] := f1
  rw [hCn, hC6] at a4
  have c4 := take_drop_get (drop_one a4)
  have a5 : (((cs.drop 3).take (Try.prog.cellsOf 44)).drop 2).take (Try.prog.cellsOf 32) = [.int .u32 lf] := f2
  rw [hCn, hCu] at a5
  have c5 := take_drop_get (drop_one a5)
  have a6 : (((cs.drop 3).take (Try.prog.cellsOf 44)).drop 3).take (Try.prog.cellsOf 32) = [.int .u32 rg] := f3
  rw [hCn, hCu] at a6
  have c6 := take_drop_get (drop_one a6)
  have a7 : (((cs.drop 3).take (Try.prog.cellsOf 44)).drop 4).take (Try.prog.cellsOf 3) = [.int .i64 sz] := f4
  rw [hCn, hCi] at a7
  have c7 := take_drop_get (drop_one a7)
  have a8 : (((cs.drop 3).take (Try.prog.cellsOf 44)).drop 5).take (Try.prog.cellsOf 2) = [.int .i64 sm] := f5
  rw [hCn, hC6] at a8
  have c8 := take_drop_get (drop_one a8)
  have a9 : (((cs.drop 3).take (Try.prog.cellsOf 44)).drop 6).take (Try.prog.cellsOf 2) = [.int .i64 mn] := f6
  rw [hCn, hC6] at a9
  have c9 := take_drop_get (drop_one a9)
  have a10 : (((cs.drop 3).take (Try.prog.cellsOf 44)).drop 7).take (Try.prog.cellsOf 2) = [.int .i64 mx] := f7
  rw [hCn, hC6] at a10
  have c10 := take_drop_get (drop_one a10)
  apply List.ext_getElem?
  intro j
  by_cases hj : j < 11
  · rcases (show j = 0 ∨ j = 1 ∨ j = 2 ∨ j = 3 ∨ j = 4 ∨ j = 5 ∨ j = 6 ∨ j = 7 ∨ j = 8 ∨ j = 9 ∨ j = 10 by omega) with rfl | rfl | rfl | rfl | rfl | rfl | rfl | rfl | rfl | rfl | rfl
    · exact c0
    · exact c1
    · exact c2
    · exact c3
    · exact c4
    · exact c5.trans (by show _ = some (Value.int .u32 ((lf.toNat : Nat) : Int)); rw [el])
    · exact c6.trans (by show _ = some (Value.int .u32 ((rg.toNat : Nat) : Int)); rw [er])
    · exact c7
    · exact c8
    · exact c9
    · exact c10
  · rw [List.getElem?_eq_none (by omega), List.getElem?_eq_none (by show 11 ≤ j; omega)]
theorem slice_form {H : Type} {enc : TypeId × Value → H} {P : Program} {W : World} {t e : TypeId} {cs : List Value} {fuel : Nat} {x : DataW H × List MemPlace} (ht : P.underlying t = some (.slice e)) (h : DataW.trod enc P W 0 (fun _ => true) true fuel t cs = some x) : ∃ a n c, cs = (Value.slice a n c).cells.toList := by
  rcases Go.Deep.open_slice ht h with ⟨hcs, _⟩ | ⟨a', n', cap', m, k, D, Pl, hcs, _⟩
  · exact ⟨none, 0, 0, by rw [hcs]; rfl⟩
  · exact ⟨some a', n', cap', by rw [hcs]; rfl⟩
/-- a slice of slot numbers that came in -/
theorem u32s_in {H : Type} {enc : TypeId × Value → H} {W : World} {a : Option Addr} {n cap fuel : Nat} {z : DataW H × List MemPlace}
    (h : DataW.trod enc Try.prog W 0 (fun _ => true) true fuel 23 (Value.slice a n cap).cells.toList = some z) : n ≤ cap ∧ cap ≤ maxLen ∧ ∃ l : List Nat, l.length = n ∧ U32At W a l := by
  obtain ⟨h1, h2, h3⟩ := elems_in (C := 1) Try.underlying23 (by kernel_rfl) (by decide) h
  refine ⟨h1, h2, ?_⟩
  have key : ∀ i, ∃ x : Nat, x < 4294967296 ∧ (i < n → ∃ b off, a = some ⟨b, off, none⟩ ∧ b < W.heap.size ∧ W.cell? ⟨b, off + i, none⟩ = some (.int .u32 (x : Int))) := fun i => by
    by_cases hi : i < n
    · obtain ⟨b, off, cs, m, y, ha, hb, _, hc, ht⟩ := h3 i hi
      obtain ⟨x, rfl, _, hw⟩ := DataW.trod_int Try.underlying32 ht
      have hbd := bounds_u32 hw
      refine ⟨x.toNat, by omega, fun _ => ⟨b, off, ha, hb, ?_⟩⟩
      have h4 := hc 0 _ rfl
      rw [Nat.mul_one, Nat.add_zero] at h4
      rw [h4, Int.toNat_of_nonneg (by omega)]
    · exact ⟨0, by decide, fun h => absurd h hi⟩
  refine ⟨(List.range n).map fun i => Classical.choose (key i), by simp, ⟨fun j hj => ?_, fun x hx => ?_⟩⟩
  · have hjn : j < n := by simpa using hj
    have := (Classical.choose_spec (key j)).2 hjn
    have e : ((List.range n).map fun i => Classical.choose (key i)).getD j 0 = Classical.choose (key j) := by simp [List.getD_eq_getElem?_getD, hjn]
    rw [e]
    exact this
  · obtain ⟨i, _, rfl⟩ := List.mem_map.1 hx
    exact (Classical.choose_spec (key i)).1
/-- a slice of slots that came in reads as slots -/
theorem slots_in {H : Type} {enc : TypeId × Value → H} {W : World} {a : Option Addr} {n cap fuel : Nat} {z : DataW H × List MemPlace}
    (h : DataW.trod enc Try.prog W 0 (fun _ => true) true fuel 22 (Value.slice a n cap).cells.toList = some z) : n ≤ cap ∧ cap ≤ maxLen ∧ ∃ S : Nat → Sl, SlotsAt W a n S ∧ ∀ i, i < n → SlIn (S i) := by
  obtain ⟨h1, h2, h3⟩ := elems_in (C := 11) Try.underlying22 (by kernel_rfl) (by decide) h
  refine ⟨h1, h2, ?_⟩
  have key : ∀ i, ∃ s : Sl, i < n → SlIn s ∧ ∃ b off, a = some ⟨b, off, none⟩ ∧ b < W.heap.size ∧ ∀ j v, (slV s)[j]? = some v → W.cell? ⟨b, off + i * 11 + j, none⟩ = some v := fun i => by
    by_cases hi : i < n
    · obtain ⟨b, off, cs, m, y, ha, hb, _, hc, ht⟩ := h3 i hi
      obtain ⟨s, hs, rfl⟩ := slot_in ht
      exact ⟨s, fun _ => ⟨hs, b, off, ha, hb, hc⟩⟩
    · exact ⟨⟨false, 0, 0, Nd.zero⟩, fun h => absurd h hi⟩
  refine ⟨fun i => Classical.choose (key i), ⟨fun i hi => (Classical.choose_spec (key i) hi).2, fun i hi => ?_⟩, fun i hi => (Classical.choose_spec (key i) hi).1⟩
  have := (Classical.choose_spec (key i) hi).1
  exact ⟨this.left, this.right⟩
/-- a dump that came in -/
theorem dump_in {H : Type} {enc : TypeId × Value → H} {W : World} {cs : List Value} {fuel : Nat} {z : DataW H × List MemPlace} (h : DataW.trod enc Try.prog W 0 (fun _ => true) true fuel 25 cs = some z) :
    ∃ a n c b m d, cs = [.slice a n c, .slice b m d] ∧ n ≤ c ∧ c ≤ maxLen ∧ m ≤ d ∧ d ≤ maxLen ∧ (∃ S : Nat → Sl, SlotsAt W a n S ∧ ∀ i, i < n → SlIn (S i)) ∧ ∃ l : List Nat, l.length = m ∧ U32At W b l := by
  obtain ⟨xs, n1, _, _, hlen, hxl, hg⟩ := DataW.trod_struct Try.underlying25 h
  have hC : Try.prog.cellsOf 25 = 2 := by kernel_rfl
  have hC0 : Try.prog.cellsOf 22 = 1 := by kernel_rfl
  have hC1 : Try.prog.cellsOf 23 = 1 := by kernel_rfl
  rw [hC] at hlen
  have hx : ∀ i, i < 2 → ∃ z, xs[i]? = some z := fun i hi => ⟨xs[i]'(by rw [hxl]; exact hi), List.getElem?_eq_getElem _⟩
  obtain ⟨z0, hz0⟩ := hx 0 (by decide)
  obtain ⟨z1, hz1⟩ := hx 1 (by decide)
  have g0 : DataW.trod enc Try.prog W 0 (fun _ => true) true n1 22 ((cs.drop 0).take (Try.prog.cellsOf 22)) = xs[0]? := hg 0 _ rfl
  have g1 : DataW.trod enc Try.prog W 0 (fun _ => true) true n1 23 ((cs.drop 1).take (Try.prog.cellsOf 23)) = xs[1]? := hg 1 _ rfl
  rw [hz0, hC0] at g0
  rw [hz1, hC1] at g1
  obtain ⟨a, n, c, e0⟩ := slice_form Try.underlying22 g0
  obtain ⟨b, m, d, e1⟩ := slice_form Try.underlying23 g1
  rw [e0] at g0
  rw [e1] at g1
  obtain ⟨k1, k2, k3⟩ := slots_in g0
  obtain ⟨m1, m2, m3⟩ := u32s_in g1
  refine ⟨a, n, c, b, m, d, ?_, k1, k2, m1, m2, k3, m3⟩
  have c0 := drop_one (v := .slice a n c) e0
  have c1 := drop_one (v := .slice b m d) e1
  apply List.ext_getElem?
  intro j
  by_cases hj : j < 2
  · rcases (show j = 0 ∨ j = 1 by omega) with rfl | rfl
    · exact c0
    · exact c1
  · rw [List.getElem?_eq_none (by omega), List.getElem?_eq_none (by show 2 ≤ j; omega)]
end Go.Proofs.Yticmaddcomemhaa
