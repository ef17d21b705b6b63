/- Of the proofs of UpdateIncreases, UpdateSequence, UpdateShares, UpdateCommutes, JoinUndoesSplit: EnsIn, UpHld, EnIn. -/
import Derived.Test.YtckkmmdibgoajaaU1
import Derived.Test.YtckkmmdibgoajaaU2
import Derived.Test.YtckkmmdibgoajaaU3
import Derived.Test.YtckkmmdibgoajaaU4
import Derived.Test.YtckkmmdibgoajaaU5
import Derived.Test.YtckkmmdibgoajaaU6
import Derived.Test.YtckkmmdibgoajaaU10
import Derived.Test.YtckkmmdibgoajaaU11
import Derived.Test.YtckkmmdibgoajaaU12
import Derived.Test.YtckkmmdibgoajaaU13
set_option linter.unusedVariables false
namespace Go.Proofs.Ytckkmmdibgoajaa
open Go.RowKit
theorem ens_in {H : Type} {enc : TypeId × Value → H} {W : World} {a : Option Addr} {n cap fuel : Nat} {z : DataW H × List MemPlace}
    (h : DataW.trod enc Try.prog W 0 (fun _ => true) true fuel 22 (Value.slice a n cap).cells.toList = some z) : n ≤ cap ∧ cap ≤ maxLen ∧ ∃ raw : List En, raw.length = n ∧ EnsAt W a raw := by
  have hf := fields_in Try.underlying22 Try.underlying31 (by kernel_rfl) (by kernel_rfl) h
  have hx : ∀ r, r < n → ∃ e : En, (∃ b off, a = some ⟨b, off, none⟩ ∧ b < W.heap.size ∧ W.cell? ⟨b, off + r * 2, none⟩ = some (.int .i64 e.key) ∧ W.cell? ⟨b, off + r * 2 + 1, none⟩ = some (.int .i64 e.val)) ∧ i64R e.key ∧ i64R e.val := by
    intro r hr
    obtain ⟨b, off, v, y, m, rfl, hlt, h1, h2⟩ := hf.2.2 r hr 0 _ rfl
    obtain ⟨b', off', v', y', m', he, _, h1', h2'⟩ := hf.2.2 r hr 1 _ rfl
    simp only [Option.some.injEq, Addr.mk.injEq, and_true] at he
    obtain ⟨rfl, rfl⟩ := he
    obtain ⟨key, hv, _, hw⟩ := DataW.trod_int Try.underlying2 h2
    obtain ⟨val, hv', _, hw'⟩ := DataW.trod_int Try.underlying2 h2'
    simp only [List.cons.injEq, and_true] at hv hv'
    subst hv hv'
    exact ⟨⟨key, val⟩, ⟨b, off, rfl, hlt, h1, h1'⟩, bounds_i64 hw, bounds_i64 hw'⟩
  clear hf
  obtain ⟨f, hff⟩ : ∃ f : Nat → En, ∀ r, r < n → (∃ b off, a = some ⟨b, off, none⟩ ∧ b < W.heap.size ∧ W.cell? ⟨b, off + r * 2, none⟩ = some (.int .i64 (f r).key) ∧ W.cell? ⟨b, off + r * 2 + 1, none⟩ = some (.int .i64 (f r).val)) ∧ i64R (f r).key ∧ i64R (f r).val := by
    classical
    refine ⟨fun r => if h : r < n then (hx r h).choose else ⟨0, 0⟩, fun r hr => ?_⟩
    simp only [dif_pos hr]
    exact (hx r hr).choose_spec
  have hg : n ≤ cap ∧ cap ≤ maxLen := ⟨(fields_in Try.underlying22 Try.underlying31 (by kernel_rfl) (by kernel_rfl) h).1, (fields_in Try.underlying22 Try.underlying31 (by kernel_rfl) (by kernel_rfl) h).2.1⟩
  refine ⟨hg.1, hg.2, (List.range n).map f, by simp, ⟨fun j e he => ?_, fun e he => ?_⟩⟩
  · rw [List.getElem?_map] at he
    obtain ⟨x, hx1, hx2⟩ := Option.map_eq_some_iff.1 he
    have hj : j < n := by have := (List.getElem?_eq_some_iff.1 hx1).1; simpa using this
    have hxj : x = j := by rw [List.getElem?_range hj] at hx1; exact (Option.some.inj hx1).symm
    subst hxj
    rw [← hx2]
    exact (hff x hj).1
  · obtain ⟨x, hx1, hx2⟩ := List.mem_map.1 he
    rw [← hx2]
    exact (hff x (List.mem_range.1 hx1)).2
end Go.Proofs.Ytckkmmdibgoajaa
set_option linter.unusedVariables false
set_option linter.unusedSimpArgs false
namespace Go.Proofs.Ytckkmmdibgoajaa
open Go.RowKit
/-- an insertion with room -/
theorem insQ_room {A B : Ar} {rd rd' : Int} {held : Nat → Nat} {i : Nat} {t : Tr} {l : List En} {e : En} {en : Ending} (h : InsQ A rd held i t l e en B rd') (hu : Up l) (hr : insI (l.length : Int) ≤ (A.σ.free.length : Int)) :
    rd ≤ rd' ∧ rd' ≤ rd + updBd l.length ∧ ∃ (j : Nat) (u : Tr) (x : Int) (b : Bool), en = .returned (.tuple #[.int .u32 (j : Int), .int .i64 x, .bool b, .int .i64 0]) ∧ Got A held B j u (insE l e) := by
  obtain ⟨h1, h2, h3⟩ := h
  refine ⟨h1, h2, ?_⟩
  rcases h3 with ⟨q1, rfl, q3, -⟩ | ⟨-, q2, -⟩ | ⟨-, -, j, u, rfl, q3, -⟩
  · exact ⟨i, t, _, _, rfl, by rw [ins_in hu q1]; exact q3⟩
  · omega
  · exact ⟨j, u, _, _, rfl, q3⟩
end Go.Proofs.Ytckkmmdibgoajaa
set_option linter.unusedVariables false
namespace Go.Proofs.Ytckkmmdibgoajaa
open Go.RowKit
theorem take_oneE {cs : List Value} {k : Nat} {v : Value} (h : (cs.drop k).take 1 = [v]) : cs[k]? = some v := by
  cases hq : cs.drop k with
  | nil => rw [hq] at h; simp at h
  | cons a t =>
    rw [hq] at h
    simp at h
    have := congrArg (fun l => l[0]?) hq
    simp [List.getElem?_drop] at this
    rw [this, h]
theorem en_in {H : Type} {enc : TypeId × Value → H} {W : World} {m : Nat} {cs : List Value} {y : DataW H × List MemPlace} (h : DataW.trod enc Try.prog W 0 (fun _ => true) true m 31 cs = some y) :
    ∃ x : En, (i64R x.key ∧ i64R x.val) ∧ cs = [.int .i64 x.key, .int .i64 x.val] := by
  obtain ⟨xs, n1, _, _, hlen, hxl, hg⟩ := DataW.trod_struct Try.underlying31 h
  have hC : Try.prog.cellsOf 31 = 2 := by kernel_rfl
  have hC6 : Try.prog.cellsOf 2 = 1 := by kernel_rfl
  rw [hC] at hlen
  have hx : ∀ i, i < 2 → ∃ z, xs[i]? = some z := fun i hi => ⟨xs[i]'(by rw [hxl]; exact hi), List.getElem?_eq_getElem _⟩
  obtain ⟨z0, hz0⟩ := hx 0 (by decide)
  obtain ⟨z1, hz1⟩ := hx 1 (by decide)
  have g0 := hg 0 _ rfl
  have g1 := hg 1 _ rfl
  rw [hz0] at g0
  rw [hz1] at g1
  obtain ⟨kx, e0, _, w0⟩ := DataW.trod_int Try.underlying2 g0
  obtain ⟨vx, e1, _, w1⟩ := DataW.trod_int Try.underlying2 g1
  refine ⟨⟨kx, vx⟩, ⟨bounds_i64 w0, bounds_i64 w1⟩, ?_⟩
  have a0 : (cs.drop 0).take (Try.prog.cellsOf 2) = [.int .i64 kx] := e0
  have a1 : (cs.drop 1).take (Try.prog.cellsOf 2) = [.int .i64 vx] := e1
  rw [hC6] at a0 a1
  have c0 := take_oneE a0
  have c1 := take_oneE a1
  show cs = [.int .i64 kx, .int .i64 vx]
  clear h hg g0 g1 e0 e1 a0 a1
  obtain ⟨v0, v1, rfl⟩ : ∃ v0 v1, cs = [v0, v1] := by
    clear c0 c1
    match cs, hlen with
    | [a, b], _ => exact ⟨a, b, rfl⟩
  have d0 : v0 = .int .i64 kx := Option.some.inj c0
  have d1 : v1 = .int .i64 vx := Option.some.inj c1
  rw [d0, d1]
end Go.Proofs.Ytckkmmdibgoajaa
