/- A summary that came in. -/
import Derived.Test.YtbjmblfifnjafaaRefSum
import Derived.Test.YtbjmblfifnjafaaOwn
set_option linter.unusedVariables false
namespace Go.Proofs.Ytbjmblfifnjafaa
open Go.RowKit
theorem take_oneS {cs : List Value} {k : Nat} {v : Value} (h : (cs.drop k).take 1 = [v]) : cs[k]? = some v := by
  cases hq : cs.drop k with
  | nil => rw [hq] at h; simp at h
  | cons a t =>
    rw [hq] at h
    simp at h
    have := congrArg (fun l => l[0]?) hq
    simp [List.getElem?_drop] at this
    rw [this, h]
theorem sum_in {H : Type} {enc : TypeId × Value → H} {W : World} {m : Nat} {cs : List Value} {y : DataW H × List MemPlace} (h : DataW.trod enc Try.prog W 0 (fun _ => true) true m 25 cs = some y) :
    ∃ x : Sm, x.wf ∧ cs = (smA x).toList := by
  obtain ⟨xs, n1, _, _, hlen, hxl, hg⟩ := DataW.trod_struct Try.underlying25 h
  have hC : Try.prog.cellsOf 25 = 4 := by kernel_rfl
  have hCi : Try.prog.cellsOf 3 = 1 := by kernel_rfl
  have hC6 : Try.prog.cellsOf 2 = 1 := by kernel_rfl
  rw [hC] at hlen
  have hx : ∀ i, i < 4 → ∃ z, xs[i]? = some z := fun i hi => ⟨xs[i]'(by rw [hxl]; exact hi), List.getElem?_eq_getElem _⟩
  obtain ⟨z0, hz0⟩ := hx 0 (by decide)
  obtain ⟨z1, hz1⟩ := hx 1 (by decide)
  obtain ⟨z2, hz2⟩ := hx 2 (by decide)
  obtain ⟨z3, hz3⟩ := hx 3 (by decide)
  have g0 := hg 0 _ rfl
  have g1 := hg 1 _ rfl
  have g2 := hg 2 _ rfl
  have g3 := hg 3 _ rfl
  rw [hz0] at g0
  rw [hz1] at g1
  rw [hz2] at g2
  rw [hz3] at g3
  obtain ⟨n, e0, _, w0⟩ := DataW.trod_int Try.underlying3 g0
  obtain ⟨s, e1, _, w1⟩ := DataW.trod_int Try.underlying2 g1
  obtain ⟨mn, e2, _, w2⟩ := DataW.trod_int Try.underlying2 g2
  obtain ⟨mx, e3, _, w3⟩ := DataW.trod_int Try.underlying2 g3
  refine ⟨⟨n, s, mn, mx⟩, ⟨bounds_i64 w0, bounds_i64 w1, bounds_i64 w2, bounds_i64 w3⟩, ?_⟩
  have a0 : (cs.drop 0).take (Try.prog.cellsOf 3) = [.int .i64 n] := e0
  rw [hCi] at a0
  have a1 : (cs.drop 1).take (Try.prog.cellsOf 2) = [.int .i64 s] := e1
  rw [hC6] at a1
  have a2 : (cs.drop 2).take (Try.prog.cellsOf 2) = [.int .i64 mn] := e2
  rw [hC6] at a2
  have a3 : (cs.drop 3).take (Try.prog.cellsOf 2) = [.int .i64 mx] := e3
  rw [hC6] at a3
  have c0 := take_oneS a0
  have c1 := take_oneS a1
  have c2 := take_oneS a2
  have c3 := take_oneS a3
  show cs = [.int .i64 n, .int .i64 s, .int .i64 mn, .int .i64 mx]
  clear h hg g0 g1 g2 g3 e0 e1 e2 e3 a0 a1 a2 a3
  obtain ⟨v0, v1, v2, v3, rfl⟩ : ∃ v0 v1 v2 v3, cs = [v0, v1, v2, v3] := by
    clear c0 c1 c2 c3
    match cs, hlen with
    | [a, b, c, d], _ => exact ⟨a, b, c, d, rfl⟩
  have d0 : v0 = .int .i64 n := Option.some.inj c0
  have d1 : v1 = .int .i64 s := Option.some.inj c1
  have d2 : v2 = .int .i64 mn := Option.some.inj c2
  have d3 : v3 = .int .i64 mx := Option.some.inj c3
  rw [d0, d1, d2, d3]
end Go.Proofs.Ytbjmblfifnjafaa
