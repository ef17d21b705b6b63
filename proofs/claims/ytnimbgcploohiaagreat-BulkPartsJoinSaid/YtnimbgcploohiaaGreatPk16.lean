/- Of the proofs of BulkCuts, BulkPartsJoin: EnsIn, BkShp, BkAw. -/
import Derived.Test.YtnimbgcploohiaaGreatPk1
import Derived.Test.YtnimbgcploohiaaGreatPk2
import Derived.Test.YtnimbgcploohiaaGreatPk3
import Derived.Test.YtnimbgcploohiaaGreatPk4
import Derived.Test.YtnimbgcploohiaaGreatPk5
import Derived.Test.YtnimbgcploohiaaGreatPk6
import Derived.Test.YtnimbgcploohiaaGreatPk13
set_option linter.unusedVariables false
namespace Go.Proofs.YtnimbgcploohiaaGreat
open Go.RowKit
theorem ens_in {H : Type} {enc : TypeId × Value → H} {W : World} {a : Option Addr} {n cap fuel : Nat} {z : DataW H × List MemPlace}
    (h : DataW.trod enc Tryz.prog W 0 (fun _ => true) true fuel 22 (Value.slice a n cap).cells.toList = some z) : n ≤ cap ∧ cap ≤ maxLen ∧ ∃ raw : List En, raw.length = n ∧ EnsAt W a raw := by
  have hf := fields_in Tryz.underlying22 Tryz.underlying34 (by kernel_rfl) (by kernel_rfl) h
  have hx : ∀ r, r < n → ∃ e : En, (∃ b off, a = some ⟨b, off, none⟩ ∧ b < W.heap.size ∧ W.cell? ⟨b, off + r * 2, none⟩ = some (.int .i64 e.key) ∧ W.cell? ⟨b, off + r * 2 + 1, none⟩ = some (.int .i64 e.val)) ∧ i64R e.key ∧ i64R e.val := by
    intro r hr
    obtain ⟨b, off, v, y, m, rfl, hlt, h1, h2⟩ := hf.2.2 r hr 0 _ rfl
    obtain ⟨b', off', v', y', m', he, _, h1', h2'⟩ := hf.2.2 r hr 1 _ rfl
    simp only [Option.some.injEq, Addr.mk.injEq, and_true] at he
    obtain ⟨rfl, rfl⟩ := he
    obtain ⟨key, hv, _, hw⟩ := DataW.trod_int Tryz.underlying2 h2
    obtain ⟨val, hv', _, hw'⟩ := DataW.trod_int Tryz.underlying2 h2'
    simp only [List.cons.injEq, and_true] at hv hv'
    subst hv hv'
    exact ⟨⟨key, val⟩, ⟨b, off, rfl, hlt, h1, h1'⟩, bounds_i64 hw, bounds_i64 hw'⟩
  clear hf
  obtain ⟨f, hff⟩ : ∃ f : Nat → En, ∀ r, r < n → (∃ b off, a = some ⟨b, off, none⟩ ∧ b < W.heap.size ∧ W.cell? ⟨b, off + r * 2, none⟩ = some (.int .i64 (f r).key) ∧ W.cell? ⟨b, off + r * 2 + 1, none⟩ = some (.int .i64 (f r).val)) ∧ i64R (f r).key ∧ i64R (f r).val := by
    classical
    refine ⟨fun r => if h : r < n then (hx r h).choose else ⟨0, 0⟩, fun r hr => ?_⟩
    simp only [dif_pos hr]
    exact (hx r hr).choose_spec
  have hg : n ≤ cap ∧ cap ≤ maxLen := ⟨(fields_in Tryz.underlying22 Tryz.underlying34 (by kernel_rfl) (by kernel_rfl) h).1, (fields_in Tryz.underlying22 Tryz.underlying34 (by kernel_rfl) (by kernel_rfl) h).2.1⟩
  refine ⟨hg.1, hg.2, (List.range n).map f, by simp, ⟨fun j e he => ?_, fun e he => ?_⟩⟩
  · rw [List.getElem?_map] at he
    obtain ⟨x, hx1, hx2⟩ := Option.map_eq_some_iff.1 he
    have hj : j < n := by have := (List.getElem?_eq_some_iff.1 hx1).1; simpa using this
    have hxj : x = j := by rw [List.getElem?_range hj] at hx1; exact (Option.some.inj hx1).symm
    subst hxj
    rw [← hx2]
    exact (hff x hj).1
  · obtain ⟨x, hx1, hx2⟩ := List.mem_map.1 he
    rw [← hx2]
    exact (hff x (List.mem_range.1 hx1)).2
end Go.Proofs.YtnimbgcploohiaaGreat
set_option linter.unusedVariables false
set_option linter.unusedSimpArgs false
namespace Go.Proofs.YtnimbgcploohiaaGreat
open Go.RowKit
/-- the root of a tree that is built -/
theorem mid_root {nd : Nat → Nd} {t : Tr} {l : List En} (hm : t.mid) (he : t.ents nd = l) (h0 : l ≠ []) : ∃ (i : Nat) (u v : Tr), t = .node i u v ∧ l[l.length / 2]? = some ⟨(nd i).key, (nd i).val⟩ := by
  cases t with
  | nil => exact absurd he.symm h0
  | node i u v =>
    refine ⟨i, u, v, rfl, ?_⟩
    have h1 := hm.1
    rw [Tr.ents_node] at he
    have hlen : l.length = u.size + v.size + 1 := by rw [← he, List.length_append, List.length_cons, Tr.ents_len, Tr.ents_len]; omega
    rw [hlen, ← h1, ← he, List.getElem?_append_right (by rw [Tr.ents_len]; exact Nat.le_refl _), Tr.ents_len, Nat.sub_self]
    rfl
def l1234 : List En := [⟨1, 0⟩, ⟨2, 0⟩, ⟨3, 0⟩, ⟨4, 0⟩]
theorem l1234_up : Up l1234 := by unfold Up l1234; simp
theorem l1234_wf : WfL l1234 := by
  intro y hy
  simp [l1234] at hy
  rcases hy with rfl | rfl | rfl | rfl <;> exact ⟨⟨by decide, by decide⟩, ⟨by decide, by decide⟩⟩
theorem l1234_at (w : World) (t : TypeId) : EnsAt (w.alloc (.cells #[.int .i64 1, .int .i64 0, .int .i64 2, .int .i64 0, .int .i64 3, .int .i64 0, .int .i64 4, .int .i64 0] t)) (some ⟨w.heap.size, 0, none⟩) l1234 := by
  have hr := heap_alloc_new w (.cells #[.int .i64 1, .int .i64 0, .int .i64 2, .int .i64 0, .int .i64 3, .int .i64 0, .int .i64 4, .int .i64 0] t)
  refine ⟨fun j e he => ⟨w.heap.size, 0, rfl, by simp, ?_⟩, l1234_wf⟩
  match j, he with
  | 0, he => cases he; constructor <;> (rw [cell_of_row _ _ _ _ _ _ hr]; rfl)
  | 1, he => cases he; constructor <;> (rw [cell_of_row _ _ _ _ _ _ hr]; rfl)
  | 2, he => cases he; constructor <;> (rw [cell_of_row _ _ _ _ _ _ hr]; rfl)
  | 3, he => cases he; constructor <;> (rw [cell_of_row _ _ _ _ _ _ hr]; rfl)
  | j + 4, he => simp [l1234] at he
theorem TreeAt.top {A : Ar} {i : Nat} {t : Tr} {l : List En} (h : TreeAt A i t l) (hl : l ≠ []) : i < 4294967296 ∧ A.σ.on i = true ∧ (A.nd i).size = (l.length : Int) := by
  refine ⟨h.idx, ?_⟩
  have hs := h.sub.size h.agg
  rw [h.size] at hs
  rcases h.sub.idx with h0 | h0
  · have hp := List.length_pos_iff.2 hl
    unfold Ar.sz at hs
    rw [if_pos h0] at hs
    omega
  · refine ⟨h0, ?_⟩
    obtain ⟨held, hv⟩ := h.inv
    have := (hv.ok.on i h0).1
    unfold Ar.sz at hs
    rw [if_neg (by omega)] at hs
    exact hs
/-- a call that alters the arena, told what is not the arena's -/
theorem Scn.mutF {I : AImpl} {B : Nat} {w0 w : World} {p : Value} {A : Ar} {rd : Int} {rs : List Row} {bs : List (Nat × Obj)} {f : FuncId} {args : Array Value} {Q : Ending → Ar → Int → Prop} (h : Scn I B w0 w p A rd rs bs) (hc : ∀ F, I.Is w p A rd F → (∀ k, F k → B ≤ k) → (∀ k, SG rs bs k → ¬ F k) → Calls Tryz.prog f args w (Mut I p F Q w)) :
    Calls Tryz.prog f args w fun e w' => ∃ A' rd', Q e A' rd' ∧ Scn I B w0 w' p A' rd' rs bs := by
  obtain ⟨F, f1, f2, f3⟩ := h.mr.has
  refine (hc F f1 f2 fun k hk => (f3 k hk).2).mono ?_
  rintro e w1 ⟨F', A', rd', hal, hI, hq⟩
  have hst := h.mr.stepA f2 f3 hal hI
  exact ⟨A', rd', hq, h.stepA hst.1 hst.2⟩
end Go.Proofs.YtnimbgcploohiaaGreat
set_option linter.unusedVariables false
set_option linter.unusedSimpArgs false
namespace Go.Proofs.YtnimbgcploohiaaGreat
open Go.RowKit
set_option maxHeartbeats 4000000 in
set_option maxRecDepth 100000 in
theorem awake15_any (I : AImpl) (K : BkImpl I) (w : World) : Calls Tryz.prog 9 #[] w (Calm w (.bool true)) := by
  have HK := Lib.hid K
  clear K
  go_enter Tryz.func9, Tryz.ntmps9
  go_wp2_with fail
  refine (I.new_ok 8 w (by decide) (by decide)).mono ?_
  rintro e w1 ⟨p, F, rfl, hI, hF, hb1⟩
  obtain ⟨pa, rfl⟩ := I.ptr hI
  have HS1 : Hid (Scn I w.heap.size w w1 (.pointer (some pa)) (Ar.init 8) 0 [] []) := Scn.start ⟨⟨F, hI, hF, fun k hk => hk.elim⟩, hb1, hb1.size⟩
  have HAT := Lib.hid (l1234_at w1 34)
  have HS2 := Lib.hid (HS1.out.box #[.int .i64 1, .int .i64 0, .int .i64 2, .int .i64 0, .int .i64 3, .int .i64 0, .int .i64 4, .int .i64 0] 34)
  have HUP : Hid (Up l1234 ∧ l1234.length = 4 ∧ (Ar.init 8).σ.free.length = 8) := ⟨l1234_up, rfl, by show (List.range' 1 8).length = _; simp⟩
  clear hI hF hb1 HS1
  go_wp2_with fail
  generalize w1.alloc (.cells #[.int .i64 1, .int .i64 0, .int .i64 2, .int .i64 0, .int .i64 3, .int .i64 0, .int .i64 4, .int .i64 0] 34) = w2 at HAT HS2 ⊢
  generalize w1.heap.size = g at HAT HS2 ⊢
  refine (HS2.out.mutF fun F hI hF hG => HK.out.build w2 hI (Ar.init_inv (by decide) (by decide)) (Ar.init_agg _) (fun j => by show (0 : Nat) ≤ _; omega) HAT.out HUP.out.2.1 (by decide) (fun _ b off h => by simp at h; rw [← h.1]; exact hG _ (.inr ⟨_, List.mem_cons_self, rfl⟩)) (by decide) (by unfold maxLen; decide) (by decide) (by decide)).mono ?_
  rintro e w3 ⟨B, rd3, ⟨h30, h31, hq⟩, hs3⟩
  rcases hq with ⟨q1, -⟩ | ⟨-, q2, -⟩ | ⟨-, -, j, t, rfl, hg, hm, -⟩
  · exact absurd HUP.out.1 q1
  · exact absurd q2 (by have := HUP.out; omega)
  have hT := hg.tree HUP.out.1
  obtain ⟨j2, u, v, ht, hat⟩ := mid_root hm hg.ents (by simp [l1234])
  have hj : j2 = j := by have := hg.sub; rw [ht] at this; cases this; rfl
  subst hj
  have htop := hT.top (by simp [l1234])
  have HS3 := Lib.hid hs3
  have HT := Lib.hid hT
  have HJ : Hid (j2 < 4294967296 ∧ B.σ.on j2 = true ∧ (B.nd j2).size = 4 ∧ (B.nd j2).key = 3) := ⟨htop.1, htop.2.1, by rw [htop.2.2]; rfl, by
    have h3 : l1234[l1234.length / 2]? = some ⟨3, 0⟩ := rfl
    rw [h3] at hat
    have := Option.some.inj hat
    exact (congrArg En.key this).symm⟩
  have HRD3 : Hid (0 ≤ rd3 ∧ rd3 ≤ 10000) := ⟨h30, by have := HUP.out.2.1; omega⟩
  clear hs3 hg hm hT ht hat htop h30 h31 HS2 HAT
  go_wp2_with fail
  refine (HS3.out.node HRD3.out.1 (by have := HRD3.out; omega) HJ.out.1 HJ.out.2.1).mono ?_
  rintro e w4 ⟨rfl, hs4⟩
  have hs5 := hs4.box (ndRow (B.nd j2)) 65
  unfold ndRow
  go_upto_region 6 with fail
  rw [show #[Value.int .i64 (B.nd j2).key, .int .i64 (B.nd j2).val, .int .u32 ((B.nd j2).left : Int), .int .u32 ((B.nd j2).right : Int), .int .i64 (B.nd j2).size, .int .i64 (B.nd j2).sum, .int .i64 (B.nd j2).mn, .int .i64 (B.nd j2).mx] = ndRow (B.nd j2) from rfl]
  generalize w4.alloc (Obj.cells (ndRow (B.nd j2)) 65) = w5 at hs5 ⊢
  generalize w4.heap.size = q at hs5 ⊢
  have hbx := (hs5.boxes (q, .cells (ndRow (B.nd j2)) 65 (0, 0)) (by simp)).2
  have x0 : w5.cell? ⟨q, 0, none⟩ = some (.int .i64 3) := by rw [cell_of_row _ _ _ _ _ _ hbx, ← HJ.out.2.2.2]; rfl
  have x4 : w5.cell? ⟨q, 4, none⟩ = some (.int .i64 4) := by rw [cell_of_row _ _ _ _ _ _ hbx, ← HJ.out.2.2.1]; rfl
  have HS5 := Lib.hid hs5
  clear hs4 hs5 hbx HS3
  go_wp2_with fail
  refine (HS5.out.ens (fun F hI => HK.out.list w5 hI HT.out (by intro y hy; simp [l1234] at hy; unfold i64R; rcases hy with rfl | rfl | rfl | rfl <;> simp) (by have := HRD3.out; omega) (by have := HRD3.out; omega)) HUP.out.2.1).mono ?_
  rintro e w6 ⟨a6, c6, rd6, rfl, hs6, -, -⟩
  have HB6 := Lib.hid hs6.below
  clear hs6 HS5 x0 x4
  go_wp2_with fail
  go_ret
  exact ⟨rfl, HB6.out⟩
end Go.Proofs.YtnimbgcploohiaaGreat
