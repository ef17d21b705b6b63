/- The reference's arena: drop, Release; what Make answers. -/
import Derived.Test.YtnmookemeibioaaArenaCon
import Derived.Test.YtnmookemeibioaaRefArX
import Derived.Test.YtnmookemeibioaaArOk0
import Derived.Test.YtnmookemeibioaaArOk5
set_option linter.unusedVariables false
namespace Go.Proofs.Ytnmookemeibioaa

inductive Drops : Ar → Nat → Ar → Nat → Prop where
  | zero (A : Ar) : Drops A 0 A 0
  | dec (A : Ar) (i : Nat) : i ≠ 0 → A.σ.on i = true → 2 ≤ A.cnt i → A.cnt i ≤ 4611686018427387904 → Drops A i (A.dec i) 0
  | free {A A1 A2 : Ar} {i m n : Nat} : i ≠ 0 → A.σ.on i = true → A.cnt i = 1 → Drops (A.drop i) (A.nd i).left A1 m → Drops A1 (A.nd i).right A2 n → Drops A i A2 (1 + m + n)
theorem Drops.len {A A1 : Ar} {i m : Nat} (h : Drops A i A1 m) : A1.σ.cap = A.σ.cap ∧ A1.σ.free.length = A.σ.free.length + m ∧ (A.σ.Ok → A1.σ.Ok) := by
  induction h with
  | zero A => exact ⟨rfl, rfl, id⟩
  | dec A i h0 h1 h2 h3 => exact ⟨rfl, rfl, id⟩
  | @free A A1 A2 i m n h0 h1 h2 _ _ h3 h4 =>
    have e1 : (A.drop i).σ.cap = A.σ.cap := rfl
    have e2 : (A.drop i).σ.free.length = A.σ.free.length + 1 := by simp [Ar.drop, St.put]
    exact ⟨by rw [h4.1, h3.1, e1], by rw [h4.2.1, h3.2.1, e2]; omega, fun hok => h4.2.2 (h3.2.2 (St.put_ok hok h1))⟩
theorem drops_run : ∀ (f : Nat) (A : Ar) (i : Nat) (t : List Nat) (held : Nat → Nat), A.Inv (i :: t) held → (∀ j, A.cnt j ≤ 4611686018427387904) → 3 * (A.σ.cap - A.σ.free.length) + (t.length + 1) ≤ f →
    ∃ A1 m f1, Drops A i A1 m ∧ A1.Inv t held ∧ (∀ j, A1.cnt j ≤ 4611686018427387904) ∧ f1 < f ∧ 3 * (A1.σ.cap - A1.σ.free.length) + t.length ≤ f1 ∧ (Ar.run f A (i :: t)).1 = (Ar.run f1 A1 t).1 ∧ (Ar.run f A (i :: t)).2 = (Ar.run f1 A1 t).2 + m := by
  intro f
  induction f using Nat.strongRecOn with
  | ind f ih =>
    intro A i t held h hC hf
    obtain ⟨f, rfl⟩ : ∃ k, f = k + 1 := ⟨f - 1, by omega⟩
    by_cases h0 : i = 0
    · subst h0
      refine ⟨A, 0, f, .zero A, h.pop0, hC, Nat.lt_succ_self f, by omega, ?_, ?_⟩ <;>
      · conv => lhs; unfold Ar.run
        rw [if_pos rfl]
        try rfl
    · have hon : A.σ.on i = true := by rcases h.stack i (by simp) with h1 | h1; exact absurd h1 h0; exact h1
      have hp := h.pos i hon
      by_cases h1 : A.cnt i = 1
      · have hb := h.ok.len
        have hlt : A.σ.free.length < A.σ.cap := by
          have h2 := (St.put_ok h.ok hon).len
          have h3 : (A.σ.put i).free.length = A.σ.free.length + 1 := by simp [St.put]
          have h4 : (A.σ.put i).cap = A.σ.cap := rfl
          omega
        have hl : (A.drop i).σ.free.length = A.σ.free.length + 1 := by simp [Ar.drop, St.put]
        have hcp : (A.drop i).σ.cap = A.σ.cap := rfl
        have hC2 : ∀ j, (A.drop i).cnt j ≤ 4611686018427387904 := fun j => by
          show (if j = i then 0 else A.cnt j) ≤ _
          split
          · omega
          · exact hC j
        obtain ⟨A1, m, f1, hd1, hi1, hc1, hlt1, hf1, e1, e2⟩ := ih f (Nat.lt_succ_self f) (A.drop i) (A.nd i).left ((A.nd i).right :: t) held (h.popDrop hon h1) hC2 (by rw [hl, hcp]; simp only [List.length_cons]; omega)
        simp only [List.length_cons] at hf1
        obtain ⟨A2, n, f2, hd2, hi2, hc2, hlt2, hf2, e3, e4⟩ := ih f1 (by omega) A1 (A.nd i).right t held hi1 hc1 hf1
        refine ⟨A2, 1 + m + n, f2, .free h0 hon h1 hd1 hd2, hi2, hc2, by omega, hf2, ?_, ?_⟩
        · conv => lhs; unfold Ar.run
          rw [if_neg h0, if_pos h1]
          exact e1.trans e3
        · conv => lhs; unfold Ar.run
          rw [if_neg h0, if_pos h1]
          show (Ar.run f (A.drop i) _).2 + 1 = _
          rw [e2, e4]; omega
      · have hC2 : ∀ j, (A.dec i).cnt j ≤ 4611686018427387904 := fun j => by
          show (if j = i then A.cnt i - 1 else A.cnt j) ≤ _
          split
          · have := hC i; omega
          · exact hC j
        refine ⟨A.dec i, 0, f, .dec A i h0 hon (by omega) (hC i), h.popDec hon (by omega), hC2, Nat.lt_succ_self f, by show 3 * (A.σ.cap - A.σ.free.length) + t.length ≤ f; omega, ?_, ?_⟩ <;>
        · conv => lhs; unfold Ar.run
          rw [if_neg h0, if_neg h1]
          try rfl
/-- what is left and what became free by the recursion -/
theorem drops_gone {A : Ar} {i : Nat} {held : Nat → Nat} (h : A.Inv [i] held) (hC : ∀ j, A.cnt j ≤ 4611686018427387904) : Drops A i (A.gone i) (A.freed i) := by
  obtain ⟨A1, m, f1, hd, _, _, _, _, e1, e2⟩ := drops_run A.fuel A i [] held h hC (by unfold Ar.fuel; simp; omega)
  have hn : Ar.run f1 A1 [] = (A1, 0) := by cases f1 <;> rfl
  have g1 : A.gone i = A1 := by unfold Ar.gone; rw [e1, hn]
  have g2 : A.freed i = m := by unfold Ar.freed; rw [e2, hn]; omega
  rw [g1, g2]
  exact hd
end Go.Proofs.Ytnmookemeibioaa
set_option linter.unusedVariables false
namespace Go.Proofs.Ytnmookemeibioaa
open Go.RowKit
def Ar.setN (A : Ar) (i : Nat) (x : Nd) : Ar := ⟨A.σ, fun j => if j = i then x else A.nd j, A.cnt⟩
def Ar.setS (A : Ar) (σ : St) : Ar := ⟨σ, A.nd, A.cnt⟩
theorem nds_ext {A : Ar} {l : List Value} (hl : l.length = A.σ.cap * 8) (h : ∀ i j, i < A.σ.cap → j < 8 → l[i * 8 + j]? = (ndV (A.nd (i + 1)))[j]?) : l = ndsV A := by
  apply List.ext_getElem?
  intro k
  by_cases hk : k < A.σ.cap * 8
  · have h1 := h (k / 8) (k % 8) (by omega) (by omega)
    have h2 := nds_at A (i := k / 8) (j := k % 8) (by omega) (by omega)
    rw [show k / 8 * 8 + k % 8 = k by omega] at h1 h2
    rw [h1, h2]
  · rw [List.getElem?_eq_none (by omega), List.getElem?_eq_none (by rw [nds_len]; omega)]
theorem nd_len (x : Nd) : (ndV x).length = 8 := rfl
theorem nds_patch (A : Ar) {j : Nat} (x : Nd) (hj : j < A.σ.cap) : patch (ndsV A) (j * 8) (ndV x) = ndsV (A.setN (j + 1) x) := by
  refine nds_ext (by rw [patch_len, nds_len]; rfl) fun i k hi hk => ?_
  have hi' : i < A.σ.cap := hi
  rw [patch_at, nd_len, nds_len]
  show _ = (ndV (if i + 1 = j + 1 then x else A.nd (i + 1)))[k]?
  by_cases e : i = j
  · subst e
    rw [if_pos (by omega), if_pos rfl, show i * 8 + k - i * 8 = k by omega]
  · rw [if_neg (by omega), if_neg (by omega), nds_at A hi' hk]
theorem setCells_other {g k : Nat} (hk : k ≠ g) : ∀ (vs : List Value) (w : World) (o : Nat), (w.setCells g o vs).heap[k]? = w.heap[k]?
  | [], w, o => rfl
  | v :: t, w, o => (setCells_other hk t _ (o + 1)).trans (heap_setCell_other _ _ _ _ hk)
theorem alters_cells {F : Nat → Prop} {g : Nat} (h : F g) : ∀ (vs : List Value) (w : World) (o : Nat), Alters F F w (w.setCells g o vs)
  | [], w, o => Alters.refl _ _
  | v :: t, w, o => alters_trans (alters_cell (p := ⟨g, o, none⟩) h) (alters_cells h t _ (o + 1))
theorem sets8 (w : World) (g o : Nat) (v0 v1 v2 v3 v4 v5 v6 v7 : Value) : (((((((w.setCell ⟨g, o, none⟩ v0).setCell ⟨g, o + 1, none⟩ v1).setCell ⟨g, o + 2, none⟩ v2).setCell ⟨g, o + 3, none⟩ v3).setCell ⟨g, o + 4, none⟩ v4).setCell ⟨g, o + 5, none⟩ v5).setCell ⟨g, o + 6, none⟩ v6).setCell ⟨g, o + 7, none⟩ v7 = w.setCells g o [v0, v1, v2, v3, v4, v5, v6, v7] := rfl
theorem sets5 (w : World) (g : Nat) (v0 v1 v2 v3 v4 : Value) : ((((w.setCell ⟨g, 0, none⟩ v0).setCell ⟨g, 1, none⟩ v1).setCell ⟨g, 2, none⟩ v2).setCell ⟨g, 3, none⟩ v3).setCell ⟨g, 4, none⟩ v4 = w.setCells g 0 [v0, v1, v2, v3, v4] := rfl
theorem set5of8 {w : World} {q : Nat} {t : TypeId} {c0 c1 c2 c3 c4 c5 c6 c7 v0 v1 v2 v3 v4 : Value} (h : w.heap[q]? = some (.cells #[c0, c1, c2, c3, c4, c5, c6, c7] t (0, 0))) :
    (w.setCells q 0 [v0, v1, v2, v3, v4]).heap[q]? = some (.cells #[v0, v1, v2, v3, v4, c5, c6, c7] t (0, 0)) := by
  have h0 : (w.setCell ⟨q, 0, none⟩ v0).heap[q]? = some (.cells #[v0, c1, c2, c3, c4, c5, c6, c7] t (0, 0)) := by rw [heap_setCell_same _ _ _ _ _ _ h]; rfl
  have h1 : ((w.setCell ⟨q, 0, none⟩ v0).setCell ⟨q, 1, none⟩ v1).heap[q]? = some (.cells #[v0, v1, c2, c3, c4, c5, c6, c7] t (0, 0)) := by rw [heap_setCell_same _ _ _ _ _ _ h0]; rfl
  have h2 : (((w.setCell ⟨q, 0, none⟩ v0).setCell ⟨q, 1, none⟩ v1).setCell ⟨q, 2, none⟩ v2).heap[q]? = some (.cells #[v0, v1, v2, c3, c4, c5, c6, c7] t (0, 0)) := by rw [heap_setCell_same _ _ _ _ _ _ h1]; rfl
  have h3 : ((((w.setCell ⟨q, 0, none⟩ v0).setCell ⟨q, 1, none⟩ v1).setCell ⟨q, 2, none⟩ v2).setCell ⟨q, 3, none⟩ v3).heap[q]? = some (.cells #[v0, v1, v2, v3, c4, c5, c6, c7] t (0, 0)) := by rw [heap_setCell_same _ _ _ _ _ _ h2]; rfl
  rw [← sets5, heap_setCell_same _ _ _ _ _ _ h3]; rfl
section
variable {B q : Nat} {w w' w0 : World} {A : Ar} {rd : Int} {r : AL}
theorem RefAr.setNode {gn : Nat} (h : RefAr B w q A rd r) (hn : r.na = some ⟨gn, 0, none⟩) {j : Nat} (hj : j < A.σ.cap) (x : Nd) :
    RefAr B (w.setCells gn (j * 8) (ndV x)) q (A.setN (j + 1) x) rd r ∧ Alters (FR q r) (FR q r) w (w.setCells gn (j * 8) (ndV x)) := by
  have hrow := h.nodes
  rw [hn] at hrow
  have h1 := row_patch (ndV x) w (j * 8) _ hrow
  rw [nds_patch A x hj] at h1
  have hqc : q ≠ gn := fun e => by
    rcases hrow.2 with ⟨hv, _⟩ | ⟨g2, cap2, cur2, hv, _, hc2, _⟩
    · simp at hv
    · simp only [Value.slice.injEq, Option.some.injEq, Addr.mk.injEq] at hv
      rw [← hv.1.1, ← e, h.box] at hc2
      simp at hc2
  have key : ∀ {Bx s n : Nat} {e : TypeId} {v : Value} {xs : List Value}, e ≠ 50 → w.ownsRow Bx e s v n xs → (w.setCells gn (j * 8) (ndV x)).ownsRow Bx e s v n xs := fun {Bx s n e v xs} hne hr => row_keep hr fun k hk => setCells_other (fun e2 => row_ne hne hr hrow k hk (by rw [e2]; rfl)) _ _ _
  exact ⟨⟨(setCells_other hqc _ _ _).trans h.box, ⟨h.slots.free, h.slots.fr1, h.slots.fr2, key (by decide) h.slots.stack, key (by decide) h.slots.gen, key (by decide) h.slots.on, h.slots.inS, h.slots.inG, h.slots.inO⟩, by rw [hn]; exact h1, key (by decide) h.cnts, h.hq⟩, alters_cells (.inr (.inl ⟨_, hn, rfl⟩)) _ _ _⟩
theorem RefAr.foot (h : RefAr B w q A rd r) : RefAt B (FR q r) w A.σ r.st r.fr r.sa r.ga r.oa r.sc r.gc r.oc :=
  ⟨h.slots.free, h.slots.fr1, h.slots.fr2, h.slots.stack, h.slots.gen, h.slots.on, fun k e => .inr (.inr (.inr (.inl (own_some e)))), fun k e => .inr (.inr (.inr (.inr (.inl (own_some e))))), fun k e => .inr (.inr (.inr (.inr (.inr (own_some e)))))⟩
def AL.setS (r : AL) (st : List Nat) (fr : Nat) (sa ga oa : Option Addr) (sc gc oc : Nat) : AL := ⟨st, fr, sa, ga, oa, r.na, r.ca, sc, gc, oc, r.nc, r.cc⟩
/-- the allocator's next state is stored -/
theorem RefAr.setS {σ' : St} {st : List Nat} {fr : Nat} {sa ga oa : Option Addr} {sc gc oc : Nat} (h : RefAr B w q A rd r) (hR : RefAt B (fun k => FR q r k ∨ w0.heap.size ≤ k) w σ' st fr sa ga oa sc gc oc) (hc : σ'.cap = A.σ.cap) (ha : Alters (FR q r) (FR q r) w0 w) :
    RefAr B (w.setCells q 0 [.int .i64 (σ'.cap : Int), .slice sa st.length sc, .int .i64 (fr : Int), .slice ga σ'.cap gc, .slice oa σ'.cap oc]) q (A.setS σ') rd (r.setS st fr sa ga oa sc gc oc) ∧
      Alters (FR q r) (FR q (r.setS st fr sa ga oa sc gc oc)) w0 (w.setCells q 0 [.int .i64 (σ'.cap : Int), .slice sa st.length sc, .int .i64 (fr : Int), .slice ga σ'.cap gc, .slice oa σ'.cap oc]) := by
  have hx := h.box
  unfold arV at hx
  have hbox := set5of8 (v0 := .int .i64 (σ'.cap : Int)) (v1 := .slice sa st.length sc) (v2 := .int .i64 (fr : Int)) (v3 := .slice ga σ'.cap gc) (v4 := .slice oa σ'.cap oc) hx
  have key : ∀ {Bx s n : Nat} {e : TypeId} {v : Value} {xs : List Value}, e ≠ 60 → w.ownsRow Bx e s v n xs → (w.setCells q 0 [.int .i64 (σ'.cap : Int), .slice sa st.length sc, .int .i64 (fr : Int), .slice ga σ'.cap gc, .slice oa σ'.cap oc]).ownsRow Bx e s v n xs := fun {Bx s n e v xs} hne hr => row_keep hr fun k hk => setCells_other (fun e2 => by
    rcases hr.2 with ⟨rfl, _⟩ | ⟨g2, cap2, cur2, rfl, _, hc2, _⟩
    · simp [Value.ownBlock] at hk
    · simp only [Value.ownBlock, Option.some.injEq] at hk
      rw [hk, e2, h.box] at hc2
      simp at hc2
      exact hne hc2.2.symm) _ _ _
  have hal : Alters (FR q r) (FR q r) w (w.setCells q 0 [.int .i64 (σ'.cap : Int), .slice sa st.length sc, .int .i64 (fr : Int), .slice ga σ'.cap gc, .slice oa σ'.cap oc]) := alters_cells (.inl rfl) _ _ _
  generalize w.setCells q 0 [.int .i64 (σ'.cap : Int), .slice sa st.length sc, .int .i64 (fr : Int), .slice ga σ'.cap gc, .slice oa σ'.cap oc] = W at hbox key hal ⊢
  have hat := alters_trans ha hal
  have e1 : ndsV (A.setS σ') = ndsV A := by unfold ndsV Ar.setS; rw [hc]
  have e2 : cntsV (A.setS σ') = cntsV A := by unfold cntsV Ar.setS; rw [hc]
  have e3 : (A.setS σ').σ.cap = A.σ.cap := hc
  have hnd : W.ownsRow B 50 8 (.slice r.na (A.setS σ').σ.cap r.nc) (A.setS σ').σ.cap (ndsV (A.setS σ')) := by
    rw [e1, e3]; exact key (by decide) h.nodes
  have hct : W.ownsRow B 3 1 (.slice r.ca (A.setS σ').σ.cap r.cc) (A.setS σ').σ.cap (cntsV (A.setS σ')) := by
    rw [e2, e3]; exact key (by decide) h.cnts
  refine ⟨⟨?_, ⟨hR.free, hR.fr1, hR.fr2, key (by decide) hR.stack, key (by decide) hR.gen, key (by decide) hR.on, fun k hk => row_from hR.stack k hk, fun k hk => row_from hR.gen k hk, fun k hk => row_from hR.on k hk⟩, hnd, hct, h.hq⟩, ⟨hat.os, hat.tape, hat.output, hat.size, hat.block, fun k hk => ?_⟩⟩
  · rw [hbox]
    simp only [arV, AL.setS, Ar.setS, hc]
  · rcases hk with hk | hk | hk | hk | hk | hk
    · exact .inl (.inl hk)
    · exact .inl (.inr (.inl hk))
    · exact .inl (.inr (.inr (.inl hk)))
    · obtain ⟨x, hx1, hx2⟩ := hk
      exact hR.inS k (by have e : sa = some x := hx1; rw [e]; simp [Value.ownBlock, hx2])
    · obtain ⟨x, hx1, hx2⟩ := hk
      exact hR.inG k (by have e : ga = some x := hx1; rw [e]; simp [Value.ownBlock, hx2])
    · obtain ⟨x, hx1, hx2⟩ := hk
      exact hR.inO k (by have e : oa = some x := hx1; rw [e]; simp [Value.ownBlock, hx2])
theorem RefAr.eqv {A' : Ar} (h : RefAr B w q A rd r) (e : A = A') : RefAr B w q A' rd r := e ▸ h
end
end Go.Proofs.Ytnmookemeibioaa
set_option linter.unusedVariables false
namespace Go.Proofs.Ytnmookemeibioaa
open Go.RowKit
def DropRes (B q : Nat) (w : World) (rd : Int) (r : AL) (A1 : Ar) (m : Nat) (e : Ending) (w' : World) : Prop :=
  ∃ r', e = .returned (.int .i64 (m : Int)) ∧ RefAr B w' q A1 rd r' ∧ Alters (FR q r) (FR q r') w w'
theorem dec_setC (A : Ar) (i : Nat) {D : Int} (h : A.cnt i - 1 = D) : A.dec i = A.setC i D := by
  unfold Ar.dec Ar.setC
  rw [h]
theorem drop_set (A : Ar) (i : Nat) : A.drop i = ((A.setC i 0).setN i Nd.zero).setS (A.σ.put i) := rfl
theorem row8lr {w : World} {g : Nat} {x : Nd} {t : TypeId} (h : w.heap[g]? = some (.cells (ndA x) t (0, 0))) : w.cell? ⟨g, 2, none⟩ = some (.int .u32 (x.left : Int)) ∧ w.cell? ⟨g, 3, none⟩ = some (.int .u32 (x.right : Int)) := by
  refine ⟨?_, ?_⟩ <;> (rw [cell_of_row _ _ _ _ _ _ h]; rfl)
theorem row5r {w : World} {g : Nat} {t : TypeId} {c0 c1 c2 c3 c4 : Value} (h : w.heap[g]? = some (.cells #[c0, c1, c2, c3, c4] t (0, 0))) :
    w.cell? ⟨g, 0, none⟩ = some c0 ∧ w.cell? ⟨g, 1, none⟩ = some c1 ∧ w.cell? ⟨g, 2, none⟩ = some c2 ∧ w.cell? ⟨g, 3, none⟩ = some c3 ∧ w.cell? ⟨g, 4, none⟩ = some c4 := by
  refine ⟨?_, ?_, ?_, ?_, ?_⟩ <;> (rw [cell_of_row _ _ _ _ _ _ h]; rfl)
section
variable {B q : Nat} {w w' w0 : World} {A : Ar} {rd : Int} {r : AL}
set_option maxHeartbeats 4000000 in
set_option maxRecDepth 100000 in
theorem rar_drop {A1 : Ar} {i m : Nat} (h : Drops A i A1 m) : ∀ (w : World) (r : AL), RefAr B w q A rd r → A.σ.Ok →
    Calls Try.prog 54 #[.pointer (some ⟨q, 0, none⟩), .int .u32 (i : Int)] w (DropRes B q w rd r A1 m) := by
  induction h with
  | zero A =>
    intro w r h hok
    have HH := Lib.hid h
    clear h hok
    go_enter Try.func54, Try.ntmps54
    go_wp2_with fail
    go_ret
    exact ⟨r, rfl, HH.out, Alters.refl _ _⟩
  | dec A i h0 hon hc hC =>
    intro w r h hok
    have hle := hok.on i hon
    have hcap := hok.cap2
    obtain ⟨j, rfl⟩ : ∃ j, i = j + 1 := ⟨i - 1, by omega⟩
    have hj : j < A.σ.cap := by omega
    have hji : (j : Int) < (A.σ.cap : Int) := by omega
    have hj0 : (0 : Int) ≤ (j : Int) := by omega
    have hj4 : (j : Int) + 1 < 4294967296 := by omega
    have hjn : (((j : Int) + 1) == 0) = false := beq_eq_false_iff_ne.2 (by omega)
    obtain ⟨go, gn, gg, gc, hoa, hna, hga, hca, _, b0, _⟩ := h.at_ hj
    obtain ⟨_, _, _, c6⟩ := h.heads hoa hna hga hca
    have hrow := h.cnts
    rw [hca] at hrow
    have hfr := hrow.frozenAt j
    obtain ⟨h3, h4⟩ := h.setCnt hca hj (A.cnt (j + 1) - 1)
    have hr2 := h3.cnts
    rw [hca] at hr2
    have hcell := hr2.cellAt j (by show j < A.σ.cap * 1; omega)
    rw [cntsV_at _ (show j < (A.setC (j + 1) (A.cnt (j + 1) - 1)).σ.cap from hj)] at hcell
    rw [show (A.setC (j + 1) (A.cnt (j + 1) - 1)).cnt (j + 1) = A.cnt (j + 1) - 1 from if_pos rfl] at hcell
    obtain ⟨_, _, _, d6⟩ := h3.heads hoa hna hga hca
    have H3 := Lib.hid h3
    have H4 := Lib.hid h4
    have HD6 := Lib.hid d6
    have HCELL := Lib.hid hcell
    clear h h0 hon hok hle hcap hj hrow hoa hna hga hca hr2 h3 h4 hcell d6
    obtain ⟨C, hCC⟩ : ∃ C, A.cnt (j + 1) = C := ⟨_, rfl⟩
    rw [hCC] at hc hC b0 H3 H4 HCELL HD6
    have HC := Lib.hid hCC
    clear hCC
    go_enter Try.func54, Try.ntmps54
    go_upto_region 4 with fail
    clear b0 c6 hfr
    have d6 := HD6.out
    have hcell := HCELL.out
    generalize w.setCell ⟨gc, j, none⟩ (.int .i64 (C - 1)) = w3 at H3 H4 d6 hcell ⊢
    obtain ⟨D, hD⟩ : ∃ D, C - 1 = D := ⟨_, rfl⟩
    have hD0 : (0 : Int) < D := by omega
    rw [hD] at hcell H3
    have HD := Lib.hid hD
    have hca2 : (A.setC (j + 1) D).σ.cap = A.σ.cap := rfl
    rw [show (A.setC (j + 1) (C - 1)).σ.cap = A.σ.cap from rfl] at d6
    clear hD hc hC HCELL HD6 hca2
    go_wp2_with fail
    go_ret
    exact ⟨r, rfl, by rw [dec_setC A (j + 1) (D := D) (by rw [HC.out, HD.out])]; exact H3.out, H4.out⟩
  | @free A A1 A2 i m n h0 hon hc hd1 hd2 ih1 ih2 =>
    intro w r h hok
    have hle := hok.on i hon
    have hcap := hok.cap2
    obtain ⟨j, rfl⟩ : ∃ j, i = j + 1 := ⟨i - 1, by omega⟩
    have hj : j < A.σ.cap := by omega
    have hji : (j : Int) < (A.σ.cap : Int) := by omega
    have hj0 : (0 : Int) ≤ (j : Int) := by omega
    have hj4 : (j : Int) + 1 < 4294967296 := by omega
    have hjn : (((j : Int) + 1) == 0) = false := beq_eq_false_iff_ne.2 (by omega)
    have hput := St.put_ok hok hon
    have hok1 := hd1.len.2.2 hput
    have hm1 := hd1.len.2.1
    have hm2 := hd2.len.2.1
    have hl1 := hok1.len
    have hl2 := (hd2.len.2.2 hok1).len
    rw [hd2.len.1, hd1.len.1] at hl2
    have e1 : (A.drop (j + 1)).σ.cap = A.σ.cap := rfl
    rw [e1] at hl2
    have hmm : m + n ≤ 65536 := by omega
    have HOK1 := Lib.hid hok1
    have HPUT : Hid ((A.drop (j + 1)).σ.Ok) := hput
    have HOK := Lib.hid hok
    have HON := Lib.hid hon
    have IH1 := Lib.hid ih1
    have IH2 := Lib.hid ih2
    have HMM := Lib.hid hmm
    clear hput hok1 hm1 hm2 hl1 hl2 e1 ih1 ih2 hmm hd1 hd2
    obtain ⟨go, gn, gg, gc, hoa, hna, hga, hca, _, b0, _⟩ := h.at_ hj
    obtain ⟨_, _, _, c6⟩ := h.heads hoa hna hga hca
    rw [hc] at b0
    have hrow := h.cnts
    rw [hca] at hrow
    have hfr := hrow.frozenAt j
    obtain ⟨h3, h4⟩ := h.setCnt hca hj 0
    have H3 := Lib.hid h3
    have H4 := Lib.hid h4
    have HJ := Lib.hid hj
    have HOA := Lib.hid hoa
    have HNA := Lib.hid hna
    have HGA := Lib.hid hga
    have HCA := Lib.hid hca
    have HFL : Hid (∀ k, FR q r k → k < w.heap.size) := h.frLt
    clear h h0 hon hok hle hcap hj hrow hoa hna hga hca h3 h4 hc
    go_enter Try.func54, Try.ntmps54
    go_upto_region 4 with fail
    clear b0 c6 hfr
    generalize w.setCell ⟨gc, j, none⟩ (.int .i64 0) = w3 at H3 H4 ⊢
    obtain ⟨_, _, _, _, -, k2, -, k4, -, b0, -, g0, g1, g2, g3, g4, g5, g6, g7⟩ := H3.out.at_ (k := j) HJ.out
    rw [HNA.out] at k2
    rw [HCA.out] at k4
    simp only [Option.some.injEq, Addr.mk.injEq, and_true] at k2 k4
    subst k2 k4
    rw [show (A.setC (j + 1) 0).cnt (j + 1) = 0 from if_pos rfl] at b0
    rw [show (A.setC (j + 1) 0).nd (j + 1) = A.nd (j + 1) from rfl] at g0 g1 g2 g3 g4 g5 g6 g7
    obtain ⟨-, -, c5, c6⟩ := H3.out.heads HOA.out HNA.out HGA.out HCA.out
    rw [show (A.setC (j + 1) 0).σ.cap = A.σ.cap from rfl] at c5 c6
    have hal4 := below_new5 w3 (Obj.cells (ndA (A.nd (j + 1))) 50)
    have HX := Lib.hid (heap_alloc_new w3 (Obj.cells (ndA (A.nd (j + 1))) 50))
    have H5 := Lib.hid (H3.out.below hal4)
    have HA5 : Hid (Alters (FR q r) (FR q r) w (w3.alloc (Obj.cells (ndA (A.nd (j + 1))) 50))) := alters_trans H4.out (.of_below hal4)
    have HW3 := Lib.hid H4.out.size
    clear hal4
    go_upto_region 7 with fail
    rw [show #[Value.int .i64 (A.nd (j + 1)).key, .int .i64 (A.nd (j + 1)).val, .int .u32 ((A.nd (j + 1)).left : Int), .int .u32 ((A.nd (j + 1)).right : Int), .int .i64 (A.nd (j + 1)).size, .int .i64 (A.nd (j + 1)).sum, .int .i64 (A.nd (j + 1)).mn, .int .i64 (A.nd (j + 1)).mx] = ndA (A.nd (j + 1)) from rfl]
    clear b0 c5 c6 g0 g1 g2 g3 g4 g5 g6 g7
    generalize w3.alloc (Obj.cells (ndA (A.nd (j + 1))) 50) = w4 at H5 HA5 HX ⊢
    obtain ⟨p, hp⟩ : ∃ p, w3.heap.size = p := ⟨_, rfl⟩
    rw [hp] at HX HW3 ⊢
    have HNP : Hid (¬ FR q r p) := fun hf => by have := HFL.out p hf; have := HW3.out; omega
    clear hp
    obtain ⟨_, _, _, _, -, k2, -, -, -, -, -, g0, g1, g2, g3, g4, g5, g6, g7⟩ := H5.out.at_ (k := j) HJ.out
    rw [HNA.out] at k2
    simp only [Option.some.injEq, Addr.mk.injEq, and_true] at k2
    subst k2
    obtain ⟨-, -, c5, -⟩ := H5.out.heads HOA.out HNA.out HGA.out HCA.out
    rw [show (A.setC (j + 1) 0).σ.cap = A.σ.cap from rfl] at c5
    have hN := H5.out.nodes
    rw [HNA.out] at hN
    have f0 := hN.frozenAt (j * 8)
    have f1 := hN.frozenAt (j * 8 + 1)
    have f2 := hN.frozenAt (j * 8 + 2)
    have f3 := hN.frozenAt (j * 8 + 3)
    have f4 := hN.frozenAt (j * 8 + 4)
    have f5 := hN.frozenAt (j * 8 + 5)
    have f6 := hN.frozenAt (j * 8 + 6)
    have f7 := hN.frozenAt (j * 8 + 7)
    obtain ⟨h6, ha6⟩ := H5.out.setNode HNA.out HJ.out Nd.zero
    have hX6 := (ha6.block p (Array.getElem?_eq_some_iff.1 HX.out).1 HNP.out).trans HX.out
    have H6 := Lib.hid h6
    have HA6 := Lib.hid (alters_trans HA5.out ha6)
    have HX6 := Lib.hid hX6
    clear h6 ha6 hX6 hN
    go_upto_region 8 with fail
    rw [sets8]
    rw [show [Value.int .i64 0, .int .i64 0, .int .u32 0, .int .u32 0, .int .i64 0, .int .i64 0, .int .i64 0, .int .i64 0] = ndV Nd.zero from rfl]
    clear g0 g1 g2 g3 g4 g5 g6 g7 f0 f1 f2 f3 f4 f5 f6 f7 c5
    generalize w4.setCells gn (j * 8) (ndV Nd.zero) = w5 at H6 HA6 HX6 ⊢
    obtain ⟨d0, d1, d2, d3, d4⟩ := H6.out.five
    rw [show ((A.setC (j + 1) 0).setN (j + 1) Nd.zero).σ = A.σ from rfl] at d0 d3 d4
    have hP := ref_put H6.out.foot HOK.out (j + 1) (by omega) HON.out (Nat.le_trans H6.out.hq (Nat.le_of_lt H6.out.lt))
    unfold refV at hP
    rw [show ((A.setC (j + 1) 0).setN (j + 1) Nd.zero).σ = A.σ from rfl] at hP
    have HP := Lib.hid hP
    clear hP
    go_wp2_with fail
    refine HP.out.mono ?_
    rintro e w6 ⟨sa, oa, sc, oc, rfl, hR6, hb6⟩
    have hX7 := (hb6.block p (Array.getElem?_eq_some_iff.1 HX6.out).1).trans HX6.out
    have h7 := H6.out.below hb6
    have hal7 := below_new5 w6 (Obj.cells (refV (A.σ.put (j + 1)) (r.st ++ [j + 1]) r.fr sa r.ga oa sc r.gc oc) 56)
    have H8 := Lib.hid (h7.below hal7)
    have HR8 := Lib.hid (hR6.below hal7)
    have HB8 := Lib.hid (hb6.trans (hal7.mono hb6.size))
    have HX8 := Lib.hid ((hal7.block p (Array.getElem?_eq_some_iff.1 hX7).1).trans hX7)
    have hsx := heap_alloc_new w6 (Obj.cells (refV (A.σ.put (j + 1)) (r.st ++ [j + 1]) r.fr sa r.ga oa sc r.gc oc) 56)
    have HSX := Lib.hid hsx
    clear d0 d1 d2 d3 d4 hR6 hb6 h7 hal7 hX7 hsx
    unfold refV
    unfold refV at HR8 H8 HB8 HX8 HSX
    obtain ⟨L, hL⟩ : ∃ L, (r.st ++ [j + 1]).length = L := ⟨_, rfl⟩
    rw [show (A.σ.put (j + 1)).cap = A.σ.cap from rfl, hL] at HR8 H8 HB8 HX8 HSX ⊢
    have hx8 := H8.out.box
    unfold arV at hx8
    obtain ⟨d0, d1, d2, d3, d4, -⟩ := row8 hx8
    rw [show ((A.setC (j + 1) 0).setN (j + 1) Nd.zero).σ.cap = A.σ.cap from rfl] at d0 d3 d4
    have f0 := frozen_of_row _ q 0 _ _ hx8
    have f1 := frozen_of_row _ q 1 _ _ hx8
    have f2 := frozen_of_row _ q 2 _ _ hx8
    have f3 := frozen_of_row _ q 3 _ _ hx8
    have f4 := frozen_of_row _ q 4 _ _ hx8
    obtain ⟨x2, x3⟩ := row8lr HX8.out
    have hpq : ¬ p = q := fun e => HNP.out (by rw [e]; exact .inl rfl)
    have hqp : ¬ q = p := fun e => hpq e.symm
    clear hx8 x3
    have HL := Lib.hid hL
    clear hL
    go_wp2_with fail
    rw [sets5]
    clear d0 d1 d2 d3 d4 f0 f1 f2 f3 f4 x2 hpq hqp
    have hR8 := HR8.out
    have h9 := H8.out.setS (w0 := w5) (σ' := A.σ.put (j + 1)) hR8 rfl (.of_below HB8.out)
    rw [show (A.σ.put (j + 1)).cap = A.σ.cap from rfl, HL.out] at h9
    obtain ⟨h9, ha9⟩ := h9
    have hnp9 := ha9.apart (G := fun k => k = p) (fun k hk => by rw [hk]; exact ⟨(Array.getElem?_eq_some_iff.1 HX6.out).1, HNP.out⟩)
    have hX9 := (ha9.block p (Array.getElem?_eq_some_iff.1 HX6.out).1 HNP.out).trans HX6.out
    have HNP9 : Hid (¬ FR q (r.setS (r.st ++ [j + 1]) r.fr sa r.ga oa sc r.gc oc) p) := (hnp9 p rfl).2
    have H9 := Lib.hid h9
    have HA9 := Lib.hid (alters_trans HA6.out ha9)
    have HX9 := Lib.hid hX9
    clear h9 ha9 hX9 hnp9 hR8
    generalize (w6.alloc _).setCells q 0 _ = w8 at H9 HA9 HX9 ⊢
    generalize r.setS (r.st ++ [j + 1]) r.fr sa r.ga oa sc r.gc oc = r8 at H9 HA9 HNP9
    refine (IH1.out w8 r8 (H9.out.eqv (drop_set A (j + 1)).symm) HPUT.out).mono ?_
    rintro e w9 ⟨r9, rfl, h10, ha10⟩
    have hX10 := (ha10.block p (Array.getElem?_eq_some_iff.1 HX9.out).1 HNP9.out).trans HX9.out
    have H10 := Lib.hid h10
    have HA10 := Lib.hid (alters_trans HA9.out ha10)
    clear h10 ha10
    obtain ⟨x2, x3⟩ := row8lr hX10
    have hmi : (m : Int) + (n : Int) ≤ 65536 := by have := HMM.out; omega
    have hmi0 : (0 : Int) ≤ (m : Int) := by omega
    have hni0 : (0 : Int) ≤ (n : Int) := by omega
    clear hX10
    go_wp2_with fail
    refine (IH2.out w9 r9 H10.out HOK1.out).mono ?_
    rintro e w10 ⟨r10, rfl, h11, ha11⟩
    have H11 := Lib.hid h11
    have HA11 := Lib.hid (alters_trans HA10.out ha11)
    clear h11 ha11 x2 x3
    go_wp2_with fail
    go_ret
    exact ⟨r10, by go_num, H11.out, HA11.out⟩
set_option maxHeartbeats 1000000 in
set_option maxRecDepth 100000 in
theorem rar_release_bad (h : RefAr B w q A rd r) (hok : A.σ.Ok) (i : Nat) (hi : i < 4294967296) (hb : ¬ A.Idx i) :
    Calls Try.prog 26 #[.pointer (some ⟨q, 0, none⟩), .int .u32 (i : Int)] w (Calm w (.tuple #[.int .i64 0, .int .i64 3])) := by
  have hx : (decide (i = 0) || A.σ.on i) = false := by
    unfold Ar.Idx at hb
    have h1 : ¬ i = 0 := fun e => hb (.inl e)
    have h2 : ¬ A.σ.on i = true := fun e => hb (.inr e)
    simp [h1, h2]
  have HI := Lib.hid (rar_index h hok i hi)
  have HX := Lib.hid hx
  clear h hok hb hx
  go_enter Try.func26, Try.ntmps26
  go_wp2_with fail
  refine HI.out.mono ?_
  rintro e w2 ⟨rfl, hb⟩
  rw [HX.out]
  have HB := Lib.hid hb
  clear hb
  go_wp2_with fail
  go_ret2
  exact ⟨rfl, HB.out⟩
set_option maxHeartbeats 1000000 in
set_option maxRecDepth 100000 in
theorem rar_release {held : Nat → Nat} (h : RefAr B w q A rd r) (hok : A.σ.Ok) (i : Nat) (hi : i < 4294967296) (hb : A.Idx i) (hI : A.Inv [i] held) (hC : ∀ j, A.cnt j ≤ 4611686018427387904) :
    Calls Try.prog 26 #[.pointer (some ⟨q, 0, none⟩), .int .u32 (i : Int)] w (fun e w' => ∃ r', e = .returned (.tuple #[.int .i64 (A.freed i : Int), .int .i64 0]) ∧ RefAr B w' q (A.gone i) rd r' ∧ Alters (FR q r) (FR q r') w w') := by
  have hx : (decide (i = 0) || A.σ.on i) = true := by
    rcases hb with e | e
    · simp [e]
    · simp [e]
  have HI := Lib.hid (rar_index h hok i hi)
  have HX := Lib.hid hx
  have HH := Lib.hid h
  have HD := Lib.hid (drops_gone hI hC)
  have HOK := Lib.hid hok
  clear h hok hb hx hI hC
  go_enter Try.func26, Try.ntmps26
  go_wp2_with fail
  refine HI.out.mono ?_
  rintro e w2 ⟨rfl, hb2⟩
  rw [HX.out]
  have H2 := Lib.hid (HH.out.below hb2)
  have HB := Lib.hid hb2
  clear hb2
  go_wp2_with fail
  refine (rar_drop HD.out w2 r H2.out HOK.out).mono ?_
  rintro e w3 ⟨r3, rfl, h3, ha3⟩
  have H3 := Lib.hid h3
  have HA3 := Lib.hid (alters_trans (.of_below HB.out) ha3)
  clear h3 ha3
  go_wp2_with fail
  go_ret2
  exact ⟨r3, rfl, H3.out, HA3.out⟩
end
end Go.Proofs.Ytnmookemeibioaa
set_option linter.unusedVariables false
namespace Go.Proofs.Ytnmookemeibioaa
open Go.RowKit
/-- what Make answers and leaves -/
def MkOut (A : Ar) (key val : Int) (l r : Nat) (A' : Ar) (i : Nat) (er : Int) : Prop :=
  (¬ (A.Idx l ∧ A.Idx r ∧ (A.node key val l r).size ≤ 2147483647) ∧ A' = A ∧ i = 0 ∧ er = 1) ∨
  ((A.Idx l ∧ A.Idx r ∧ (A.node key val l r).size ≤ 2147483647) ∧ A.σ.free = [] ∧ A' = A ∧ i = 0 ∧ er = 2) ∨
  ((A.Idx l ∧ A.Idx r ∧ (A.node key val l r).size ≤ 2147483647) ∧ er = 0 ∧ ∃ t, A.σ.free = i :: t ∧ A' = A.made i t (A.node key val l r))
theorem mk_out (A : Ar) (key val : Int) (l r : Nat) : ∃ A' i er, MkOut A key val l r A' i er := by
  by_cases h : A.Idx l ∧ A.Idx r ∧ (A.node key val l r).size ≤ 2147483647
  · cases hf : A.σ.free with
    | nil => exact ⟨A, 0, 2, .inr (.inl ⟨h, hf, rfl, rfl, rfl⟩)⟩
    | cons i t => exact ⟨_, i, 0, .inr (.inr ⟨h, rfl, t, hf, rfl⟩)⟩
  · exact ⟨A, 0, 1, .inl ⟨h, rfl, rfl, rfl⟩⟩
/-- the node after k children -/
def Ar.part (A : Ar) (key val : Int) (l r : Nat) (k : Nat) : Nd :=
  if k = 0 then Nd.base key val l r else if k = 1 then (Nd.base key val l r).add (A.nd l) else ((Nd.base key val l r).add (A.nd l)).add (A.nd r)
theorem add_zero (x : Nd) : x.add Nd.zero = x := by unfold Nd.add; rw [if_pos (show Nd.zero.size = 0 from rfl)]
def RMake (B q : Nat) (w : World) (rd : Int) (r : AL) (A' : Ar) (i : Nat) (er : Int) (e : Ending) (w' : World) : Prop :=
  ∃ r', e = .returned (.tuple #[.int .u32 (i : Int), .int .i64 er]) ∧ RefAr B w' q A' rd r' ∧ Alters (FR q r) (FR q r') w w'
theorem ndA_cells {w : World} {b : Nat} {t : TypeId} {x : Nd} (h : w.heap[b]? = some (.cells (ndA x) t (0, 0))) :
    w.cell? ⟨b, 0, none⟩ = some (.int .i64 x.key) ∧ w.cell? ⟨b, 1, none⟩ = some (.int .i64 x.val) ∧ w.cell? ⟨b, 2, none⟩ = some (.int .u32 (x.left : Int)) ∧ w.cell? ⟨b, 3, none⟩ = some (.int .u32 (x.right : Int)) ∧ w.cell? ⟨b, 4, none⟩ = some (.int .i64 x.size) ∧ w.cell? ⟨b, 5, none⟩ = some (.int .i64 x.sum) ∧ w.cell? ⟨b, 6, none⟩ = some (.int .i64 x.mn) ∧ w.cell? ⟨b, 7, none⟩ = some (.int .i64 x.mx) := row8 h
theorem four_set {w : World} {b : Nat} {X C : Nd} (h : w.heap[b]? = some (.cells (ndA X) 50 (0, 0))) (hc : C.size ≠ 0) :
    ((((w.setCell ⟨b, 4, none⟩ (.int .i64 (X.size + C.size))).setCell ⟨b, 5, none⟩ (.int .i64 (wrap64 (X.sum + C.sum)))).setCell ⟨b, 6, none⟩ (.int .i64 (min X.mn C.mn))).setCell ⟨b, 7, none⟩ (.int .i64 (max X.mx C.mx))).heap[b]? = some (.cells (ndA (X.add C)) 50 (0, 0)) := by
  rw [row_set1 (row_set1 (row_set1 (row_set1 h 4 _) 5 _) 6 _) 7 _]
  unfold Nd.add
  rw [if_neg hc, show IntKind.i64.wrap (X.sum + C.sum) = wrap64 (X.sum + C.sum) from IntWalk.i64_left _]
  rfl
theorem RefAr.rows {B q : Nat} {w : World} {A : Ar} {rd : Int} {r : AL} {gn gc : Nat} (h : RefAr B w q A rd r) (hn : r.na = some ⟨gn, 0, none⟩) (hc : r.ca = some ⟨gc, 0, none⟩) : q ≠ gn ∧ q ≠ gc ∧ gn ≠ gc := by
  have h1 := h.nodes
  have h2 := h.cnts
  rw [hn] at h1
  rw [hc] at h2
  refine ⟨fun e => ?_, fun e => ?_, fun e => row_ne (by decide) h1 h2 gn rfl (by rw [e]; rfl)⟩
  · rcases h1.2 with ⟨hv, _⟩ | ⟨g2, cap2, cur2, hv, _, hc2, _⟩
    · simp at hv
    · simp only [Value.slice.injEq, Option.some.injEq, Addr.mk.injEq] at hv
      rw [← hv.1.1, ← e, h.box] at hc2
      simp at hc2
  · rcases h2.2 with ⟨hv, _⟩ | ⟨g2, cap2, cur2, hv, _, hc2, _⟩
    · simp at hv
    · simp only [Value.slice.injEq, Option.some.injEq, Addr.mk.injEq] at hv
      rw [← hv.1.1, ← e, h.box] at hc2
      simp at hc2
/-- what is asked of the reference's Make -/
def RMakeSpec : Prop := ∀ (B q : Nat) (w : World) (A : Ar) (rd : Int) (r : AL) (key val : Int) (l rr : Nat) (A' : Ar) (i : Nat) (er : Int), RefAr B w q A rd r → A.σ.Ok → A.Agg → (∀ i, A.σ.on i = false → A.nd i = Nd.zero) → l < 4294967296 → rr < 4294967296 → -9223372036854775808 ≤ val → val ≤ 9223372036854775807 →
    (∀ i, 0 ≤ A.cnt i ∧ A.cnt i ≤ 1179648) → MkOut A key val l rr A' i er → Calls Try.prog 35 #[.pointer (some ⟨q, 0, none⟩), .int .i64 key, .int .i64 val, .int .u32 (l : Int), .int .u32 (rr : Int)] w (RMake B q w rd r A' i er)
end Go.Proofs.Ytnmookemeibioaa
