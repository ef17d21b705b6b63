/- The reference's arena describes itself: what Dump reads and leaves. -/
import Derived.Test.YtnmookemeibioaaRefAr
import Derived.Deep.CutRange
import Derived.Deep.LoopGhost
import Derived.Deep.DeepCutAuto
import Derived.Deep.RegionHeld3
set_option linter.unusedVariables false
namespace Go.Proofs.Ytnmookemeibioaa
open Go.RowKit

def slotZ : Value := .agg #[.bool false, .int .i64 0, .int .u32 0, .int .i64 0, .int .i64 0, .int .u32 0, .int .u32 0, .int .i64 0, .int .i64 0, .int .i64 0, .int .i64 0]
theorem sInfo : (Try.prog.info? 82).map (fun i => (i.zero, i.size, i.bytes)) = some (some slotZ, 11, 80) := by kernel_rfl
def DumpRes (w : World) (A : Ar) (e : Ending) (w' : World) : Prop :=
  ∃ a c b d, e = .returned (.agg #[.slice a A.σ.cap c, .slice b A.σ.free.length d]) ∧ w'.ownsRow w.heap.size 82 11 (.slice a A.σ.cap c) A.σ.cap (slotsV A) ∧
      w'.ownsRow w.heap.size 41 1 (.slice b A.σ.free.length d) A.σ.free.length (u32s A.σ.free) ∧ Below w.heap.size w w'
def slk (A : Ar) (k : Nat) : List Value := (List.range' 1 k).flatMap (slotV A)
theorem slk_succ (A : Ar) (k : Nat) : slk A (k + 1) = slk A k ++ slotV A (k + 1) := by
  unfold slk
  rw [List.range'_concat, List.flatMap_append]
  simp [Nat.add_comm]
/-- the dump at hand in memory, after k slots -/
structure DRel (A : Ar) (d : Nat) (w3 : World) (b : Option Addr) (m dd : Nat) (k : Nat) (x : Value) (wr : World) : Prop where
  val : ∃ a c, x = .slice a k c
  box : wr.heap[d]? = some (.cells #[x, .slice b m dd] 35 (0, 0))
  row : wr.ownsRow (d + 1) 82 11 x k (slk A k)
  below : Below d w3 wr
theorem new11 (w : World) (xs : Array Value) (t : TypeId) : ∀ j u, xs.toList[j]? = some u → (w.alloc (.cells xs t)).cell? ((⟨w.heap.size, 0, none⟩ : Addr).add j) = some u := by
  intro j u hu
  have e : (⟨w.heap.size, 0, none⟩ : Addr).add j = ⟨w.heap.size, j, none⟩ := by unfold Addr.add; split <;> simp_all
  rw [e, cell_of_row _ _ _ _ _ _ (heap_alloc_new w (.cells xs t))]
  simpa using hu
theorem slotV_one (A : Ar) (k : Nat) : ∀ u ∈ slotV A k, u.oneCell' = true := by
  intro u hu
  simp [slotV, ndV] at hu
  rcases hu with rfl | rfl | rfl | rfl | rfl | rfl | rfl | rfl | rfl | rfl | rfl <;> rfl
theorem step_append_own11 {P : Program} {w : World} {ops : Array Oper} {o : Oper} {a : Act} {K : Act → World → Prop} {Q : Exit → Act → World → Prop} {E : Prop} (hgd : o.guard = none) (s x : Operand) (t : TypeId)
    (ho : o.op = .call { callee := .builtin .append, args := #[s, x], argTypes := #[t, t] })
    (base : Nat) (e : TypeId) (i : TypeInfo) (z : Value) (size bytes : Nat) (ht : P.underlying t = some (.slice e)) (hi : P.info? e = some i) (hz : i.zero = some z)
    (hsize : i.size = size) (hby : i.bytes = bytes) (hzs : z.cells.size = size) (hsz : 0 < size)
    (v : Value) (n : Nat) (xs : List Value) (hs : a.eval s = v) (hown : w.ownsRow base e size v n xs)
    (ad : Addr) (m c : Nat) (news : List Value) (hx : a.eval x = .slice (some ad) m c) (hl : news.length = m * size) (hnews : ∀ j u, news[j]? = some u → w.cell? (ad.add j) = some u) (h1 : ∀ u ∈ news, u.oneCell' = true)
    (h63 : n + m ≤ maxLen) (hbytes : (n + m) * bytes ≤ 140737488355328) (hbase : base ≤ w.heap.size)
    (h : ∀ v' w', w'.ownsRow base e size v' (n + m) (xs ++ news) → w.grownBy w' v.ownBlock → K (a.put o.dst v') w') : if Region.wanted o (yielded ops a.tmps) = true then Oper.wp P o a w K Q else E := by
  have hw : Region.wanted o (yielded ops a.tmps) = true := by simp [Region.wanted, hgd]
  rw [if_pos hw]
  exact wp_append_own w s x t ho base e i z size bytes ht hi hz hsize hby hzs hsz v n xs hs hown ad m c news hx hl hnews h1 h63 hbytes hbase fun v' w' h2 h3 _ => h v' w' h2 h3
theorem row8 {w : World} {g : Nat} {t : TypeId} {c0 c1 c2 c3 c4 c5 c6 c7 : Value} (h : w.heap[g]? = some (.cells #[c0, c1, c2, c3, c4, c5, c6, c7] t (0, 0))) :
    w.cell? ⟨g, 0, none⟩ = some c0 ∧ w.cell? ⟨g, 1, none⟩ = some c1 ∧ w.cell? ⟨g, 2, none⟩ = some c2 ∧ w.cell? ⟨g, 3, none⟩ = some c3 ∧ w.cell? ⟨g, 4, none⟩ = some c4 ∧ w.cell? ⟨g, 5, none⟩ = some c5 ∧ w.cell? ⟨g, 6, none⟩ = some c6 ∧ w.cell? ⟨g, 7, none⟩ = some c7 := by
  refine ⟨?_, ?_, ?_, ?_, ?_, ?_, ?_, ?_⟩ <;> (rw [cell_of_row _ _ _ _ _ _ h]; rfl)
/-- what Dump reads of slot k + 1 -/
theorem RefAr.at_ {B q : Nat} {w : World} {A : Ar} {rd : Int} {r : AL} (h : RefAr B w q A rd r) {k : Nat} (hk : k < A.σ.cap) : ∃ go gn gg gc, r.oa = some ⟨go, 0, none⟩ ∧ r.na = some ⟨gn, 0, none⟩ ∧ r.ga = some ⟨gg, 0, none⟩ ∧ r.ca = some ⟨gc, 0, none⟩ ∧
    w.cell? ⟨go, k, none⟩ = some (.bool (A.σ.on (k + 1))) ∧ w.cell? ⟨gc, k, none⟩ = some (.int .i64 (A.cnt (k + 1))) ∧ w.cell? ⟨gg, k, none⟩ = some (.int .u32 (A.σ.gen (k + 1))) ∧
    w.cell? ⟨gn, k * 8, none⟩ = some (.int .i64 (A.nd (k + 1)).key) ∧ w.cell? ⟨gn, k * 8 + 1, none⟩ = some (.int .i64 (A.nd (k + 1)).val) ∧ w.cell? ⟨gn, k * 8 + 2, none⟩ = some (.int .u32 ((A.nd (k + 1)).left : Int)) ∧ w.cell? ⟨gn, k * 8 + 3, none⟩ = some (.int .u32 ((A.nd (k + 1)).right : Int)) ∧
    w.cell? ⟨gn, k * 8 + 4, none⟩ = some (.int .i64 (A.nd (k + 1)).size) ∧ w.cell? ⟨gn, k * 8 + 5, none⟩ = some (.int .i64 (A.nd (k + 1)).sum) ∧ w.cell? ⟨gn, k * 8 + 6, none⟩ = some (.int .i64 (A.nd (k + 1)).mn) ∧ w.cell? ⟨gn, k * 8 + 7, none⟩ = some (.int .i64 (A.nd (k + 1)).mx) := by
  obtain ⟨go, ho, _, hco⟩ := row_cell h.slots.on hk
  obtain ⟨gg, hg, _, hcg⟩ := row_cell h.slots.gen hk
  obtain ⟨gc, hc, _, hcc⟩ := row_cell h.cnts hk
  rcases h.nodes.2 with ⟨_, hn⟩ | ⟨gn, cap, cur, hv, _, _, _, _, _, _⟩
  · omega
  · simp only [Value.slice.injEq] at hv
    obtain ⟨hv, _, _⟩ := hv
    have hN := h.nodes
    rw [hv] at hN
    have key : ∀ j v, j < 8 → (ndV (A.nd (k + 1)))[j]? = some v → w.cell? ⟨gn, k * 8 + j, none⟩ = some v := fun j v hj hv => by
      rw [hN.cellAt (k * 8 + j) (by omega), nds_at A hk hj]; exact hv
    exact ⟨go, gn, gg, gc, ho, hv, hg, hc, hco.trans (ons_at _ k hk), hcc.trans (cntsV_at A hk), hcg.trans (gens_at _ k hk), key 0 _ (by decide) rfl, key 1 _ (by decide) rfl, key 2 _ (by decide) rfl, key 3 _ (by decide) rfl, key 4 _ (by decide) rfl, key 5 _ (by decide) rfl, key 6 _ (by decide) rfl, key 7 _ (by decide) rfl⟩
def Cells11 (w : World) (A : Ar) (k go gn gg gc : Nat) : Prop :=
  w.cell? ⟨go, k, none⟩ = some (.bool (A.σ.on (k + 1))) ∧ w.cell? ⟨gc, k, none⟩ = some (.int .i64 (A.cnt (k + 1))) ∧ w.cell? ⟨gg, k, none⟩ = some (.int .u32 (A.σ.gen (k + 1))) ∧
    w.cell? ⟨gn, k * 8, none⟩ = some (.int .i64 (A.nd (k + 1)).key) ∧ w.cell? ⟨gn, k * 8 + 1, none⟩ = some (.int .i64 (A.nd (k + 1)).val) ∧ w.cell? ⟨gn, k * 8 + 2, none⟩ = some (.int .u32 ((A.nd (k + 1)).left : Int)) ∧ w.cell? ⟨gn, k * 8 + 3, none⟩ = some (.int .u32 ((A.nd (k + 1)).right : Int)) ∧
    w.cell? ⟨gn, k * 8 + 4, none⟩ = some (.int .i64 (A.nd (k + 1)).size) ∧ w.cell? ⟨gn, k * 8 + 5, none⟩ = some (.int .i64 (A.nd (k + 1)).sum) ∧ w.cell? ⟨gn, k * 8 + 6, none⟩ = some (.int .i64 (A.nd (k + 1)).mn) ∧ w.cell? ⟨gn, k * 8 + 7, none⟩ = some (.int .i64 (A.nd (k + 1)).mx)
theorem RefAr.cells11 {B q : Nat} {w : World} {A : Ar} {rd : Int} {r : AL} (h : RefAr B w q A rd r) {k go gn gg gc : Nat} (hk : k < A.σ.cap) (ho : r.oa = some ⟨go, 0, none⟩) (hn : r.na = some ⟨gn, 0, none⟩) (hg : r.ga = some ⟨gg, 0, none⟩) (hc : r.ca = some ⟨gc, 0, none⟩) : Cells11 w A k go gn gg gc := by
  obtain ⟨go', gn', gg', gc', ho', hn', hg', hc', h11⟩ := h.at_ hk
  rw [ho] at ho'
  rw [hn] at hn'
  rw [hg] at hg'
  rw [hc] at hc'
  simp only [Option.some.injEq, Addr.mk.injEq, and_true] at ho' hn' hg' hc'
  subst ho' hn' hg' hc'
  exact h11
theorem RefAr.heads {B q : Nat} {w : World} {A : Ar} {rd : Int} {r : AL} (h : RefAr B w q A rd r) {go gn gg gc : Nat} (ho : r.oa = some ⟨go, 0, none⟩) (hn : r.na = some ⟨gn, 0, none⟩) (hg : r.ga = some ⟨gg, 0, none⟩) (hc : r.ca = some ⟨gc, 0, none⟩) :
    w.cell? ⟨q, 3, none⟩ = some (.slice (some ⟨gg, 0, none⟩) A.σ.cap r.gc) ∧ w.cell? ⟨q, 4, none⟩ = some (.slice (some ⟨go, 0, none⟩) A.σ.cap r.oc) ∧ w.cell? ⟨q, 5, none⟩ = some (.slice (some ⟨gn, 0, none⟩) A.σ.cap r.nc) ∧ w.cell? ⟨q, 6, none⟩ = some (.slice (some ⟨gc, 0, none⟩) A.σ.cap r.cc) := by
  have hx := h.box
  unfold arV at hx
  obtain ⟨c0, c1, c2, c3, c4, c5, c6, c7⟩ := row8 hx
  rw [ho] at c4
  rw [hn] at c5
  rw [hg] at c3
  rw [hc] at c6
  exact ⟨c3, c4, c5, c6⟩
/-- what is asked of the reference's Dump -/
def RefDumpSpec : Prop := ∀ (B q : Nat) (w : World) (A : Ar) (rd : Int) (r : AL), RefAr B w q A rd r → A.σ.Ok → Calls Try.prog 19 #[.pointer (some ⟨q, 0, none⟩)] w (DumpRes w A)
end Go.Proofs.Ytnmookemeibioaa
