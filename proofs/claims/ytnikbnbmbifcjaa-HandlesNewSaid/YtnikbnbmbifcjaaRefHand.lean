/- The reference's table of handles keeps the plain state: its entry, Lookup, Handles. -/
import Derived.Test.YtnikbnbmbifcjaaHandPure
import Derived.Test.YtnikbnbmbifcjaaHandCon
import Derived.Test.YtnikbnbmbifcjaaPacks
import Derived.Test.YtnikbnbmbifcjaaRefSlots6
set_option linter.unusedVariables false
namespace Go.Proofs.Ytnikbnbmbifcjaa
open Go.RowKit

def valR (n : Nat) (u : Nat → Int) : List Value := (List.range n).map fun j => .int .u32 (u (j + 1))
theorem valR_at (n : Nat) (u : Nat → Int) (j : Nat) (h : j < n) : (valR n u)[j]? = some (.int .u32 (u (j + 1))) := by simp [valR, h]
/-- where the reference's rows lie -/
structure RL where
  st : List Nat
  fr : Nat
  sa : Option Addr
  ga : Option Addr
  oa : Option Addr
  va : Option Addr
  sc : Nat
  gc : Nat
  oc : Nat
  vc : Nat
def refT (σ : St) (r : RL) : Array Value :=
  #[.int .i64 (σ.cap : Int), .slice r.sa r.st.length r.sc, .int .i64 (r.fr : Int), .slice r.ga σ.cap r.gc, .slice r.oa σ.cap r.oc, .slice r.va σ.cap r.vc]
structure RefTab (B : Nat) (G : Nat → Prop) (w : World) (σ : St) (u : Nat → Int) (r : RL) : Prop where
  slots : RefAt B G w σ r.st r.fr r.sa r.ga r.oa r.sc r.gc r.oc
  ok : σ.Ok
  vals : w.ownsRow B 32 1 (.slice r.va σ.cap r.vc) σ.cap (valR σ.cap u)
  inV : ∀ k, (Value.slice r.va σ.cap r.vc).ownBlock = some k → G k
section
variable {B : Nat} {G G' : Nat → Prop} {w w' : World} {σ : St} {u : Nat → Int} {r : RL}
theorem RefTab.below (h : RefTab B G w σ u r) (hb : Below w.heap.size w w') : RefTab B G w' σ u r := ⟨h.slots.below hb, h.ok, row_below h.vals hb, h.inV⟩
theorem RefTab.keep (h : RefTab B G w σ u r) (hk : ∀ k, G k → w'.heap[k]? = w.heap[k]?) (hG : ∀ k, G k → G' k) : RefTab B G' w' σ u r :=
  ⟨h.slots.keep hk hG, h.ok, row_keep h.vals fun k e => hk k (h.inV k e), fun k e => hG k (h.inV k e)⟩
theorem ent_on {σ : St} {h : Int} (h1 : σ.on (h % 4294967296).toNat = true) (h2 : σ.gen (h % 4294967296).toNat = h / 4294967296) : σ.ent h = (h % 4294967296).toNat := by
  unfold St.ent
  rw [if_pos ⟨h1, h2⟩]
theorem ent_no {σ : St} {h : Int} (he : σ.on (h % 4294967296).toNat = false ∨ σ.gen (h % 4294967296).toNat ≠ h / 4294967296) : σ.ent h = 0 := by
  unfold St.ent
  rw [if_neg]
  rintro ⟨h1, h2⟩
  rcases he with h3 | h3
  · rw [h1] at h3; cases h3
  · exact h3 h2
/-- the box of a table's state -/
structure BoxT (w : World) (q : Nat) (σ : St) (r : RL) : Prop where
  box : w.heap[q]? = some (.cells (refT σ r) 40 (0, 0))
theorem BoxT.new (w : World) (σ : St) (r : RL) : BoxT (w.alloc (Obj.cells (refT σ r) 40)) w.heap.size σ r := ⟨heap_alloc_new w _⟩
theorem BoxT.lt {q : Nat} (h : BoxT w q σ r) : q < w.heap.size := (Array.getElem?_eq_some_iff.1 h.box).1
theorem BoxT.below {q : Nat} (h : BoxT w q σ r) (hb : Below w.heap.size w w') : BoxT w' q σ r := ⟨(hb.block q h.lt).trans h.box⟩
theorem BoxT.cells {q : Nat} (h : BoxT w q σ r) :
    w.cell? ⟨q, 0, none⟩ = some (.int .i64 (σ.cap : Int)) ∧ w.cell? ⟨q, 1, none⟩ = some (.slice r.sa r.st.length r.sc) ∧ w.cell? ⟨q, 2, none⟩ = some (.int .i64 (r.fr : Int)) ∧ w.cell? ⟨q, 3, none⟩ = some (.slice r.ga σ.cap r.gc) ∧ w.cell? ⟨q, 4, none⟩ = some (.slice r.oa σ.cap r.oc) ∧ w.cell? ⟨q, 5, none⟩ = some (.slice r.va σ.cap r.vc) := by
  refine ⟨?_, ?_, ?_, ?_, ?_, ?_⟩ <;> (rw [cell_of_row _ _ _ _ _ _ h.box]; rfl)
set_option maxHeartbeats 2000000 in
set_option maxRecDepth 100000 in
theorem rt_entry (h : RefTab B G w σ u r) (n : Int) (h0 : 0 ≤ n) (h1 : n < 18446744073709551616) :
    Calls Try.prog 33 #[.agg (refT σ r), .int .u64 n] w (Calm w (.int .u32 (σ.ent n : Int))) := by
  have hbl : ∀ ob, Below w.heap.size w (w.alloc ob) := fun ob => (Below.refl _ _).alloc (Nat.le_refl _) _
  obtain ⟨i, hi⟩ : ∃ i : Nat, n % 4294967296 = (i : Int) := Int.eq_ofNat_of_zero_le (Int.emod_nonneg _ (by decide))
  have hi2 : i < 4294967296 := by omega
  have hin : (n % 4294967296).toNat = i := by omega
  obtain ⟨g, hg⟩ : ∃ g, n / 4294967296 = g := ⟨_, rfl⟩
  have HI := Lib.hid hi
  have HG := Lib.hid hg
  have HE1 : Hid (σ.on i = false → σ.ent n = 0) := fun h => ent_no (.inl (by rw [hin]; exact h))
  have HE2 : Hid (σ.gen i ≠ g → σ.ent n = 0) := fun h => ent_no (.inr (by rw [hin, hg]; exact h))
  have HE3 : Hid (σ.on i = true → σ.gen i = g → σ.ent n = i) := fun h h' => by rw [← hin]; exact ent_on (by rw [hin]; exact h) (by rw [hin, hg]; exact h')
  clear hi hin hg
  have hB1 := BoxT.new w σ r
  have hh1 := h.below (hbl (Obj.cells (refT σ r) 40))
  have hb1 := hbl (Obj.cells (refT σ r) 40)
  have HB1 := Lib.hid hB1
  have HH1 := Lib.hid hh1
  have HBL := Lib.hid hb1
  clear hB1 hh1 hb1 hbl h
  unfold refT at *
  go_enter Try.func33, Try.ntmps33
  go_wp2_with fail
  refine (refunpack_any n _ h0 h1).mono ?_
  rintro e w1 ⟨rfl, rfl⟩
  rw [HI.out, HG.out]
  go_wp2_with fail
  refine (ref_on HH1.out.slots HH1.out.ok i hi2).mono ?_
  rintro e w2 ⟨rfl, hb2⟩
  have hT2 := HH1.out.below hb2
  have hB2 := HB1.out.below hb2
  have hbb := HBL.out.trans (hb2.mono HBL.out.size)
  obtain ⟨hc0, hc1, hc2, hc3, hc4, hc5⟩ := hB2.cells
  have HT2 := Lib.hid hT2
  have HBB := Lib.hid hbb
  clear hb2 hT2 hB2 hbb
  by_cases ho : σ.on i = true
  · rw [ho]
    go_wp2_with fail
    refine (ref_gen HT2.out.slots HT2.out.ok i hi2).mono ?_
    rintro e w3 ⟨rfl, hb3⟩
    have hb := HBB.out.trans (hb3.mono HBB.out.size)
    clear hc0 hc1 hc2 hc3 hc4 hc5 hb3
    by_cases hg : σ.gen i = g
    · have hr := HE3.out ho hg
      have HR := Lib.hid hr
      rw [hg]
      have hgg : (g != g) = false := by simp
      clear hg hr ho
      go_wp2
      go_ret
      exact ⟨by rw [HR.out]; rfl, hb⟩
    · have hr := HE2.out hg
      have HR := Lib.hid hr
      have hgg : (σ.gen i != g) = true := by simpa using hg
      clear hg hr ho
      go_wp2
      go_ret
      exact ⟨by rw [HR.out]; rfl, hb⟩
  · have ho' : σ.on i = false := by simpa using ho
    have hr := HE1.out ho'
    have HR := Lib.hid hr
    rw [ho']
    have hb := HBB.out
    clear hc0 hc1 hc2 hc3 hc4 hc5 ho ho' hr
    go_wp2
    go_ret
    exact ⟨by rw [HR.out]; rfl, hb⟩
def RtLook (w : World) (σ : St) (u : Nat → Int) (n : Int) (e : Ending) (w' : World) : Prop :=
  Calm w (if σ.ent n = 0 then .tuple #[.int .u32 0, .int .i64 5] else .tuple #[.int .u32 (u (σ.ent n)), .int .i64 0]) e w'
set_option maxHeartbeats 2000000 in
set_option maxRecDepth 100000 in
theorem rt_lookup (h : RefTab B G w σ u r) (n : Int) (h0 : 0 ≤ n) (h1 : n < 18446744073709551616) :
    Calls Try.prog 16 #[.agg (refT σ r), .int .u64 n] w (RtLook w σ u n) := by
  have hb1 : Below w.heap.size w (w.alloc (Obj.cells (refT σ r) 40)) := (Below.refl _ _).alloc (Nat.le_refl _) _
  have HB1 := Lib.hid (BoxT.new w σ r)
  have HH1 := Lib.hid (h.below hb1)
  have HBL := Lib.hid hb1
  clear hb1 h
  go_enter Try.func16, Try.ntmps16
  unfold refT at *
  go_wp2_with fail
  refine (rt_entry HH1.out n h0 h1).mono ?_
  rintro e w2 ⟨rfl, hb2⟩
  have hB2 := HB1.out.below hb2
  have hT2 := HH1.out.below hb2
  have hbb := HBL.out.trans (hb2.mono HBL.out.size)
  obtain ⟨hc0, hc1, hc2, hc3, hc4, hc5⟩ := hB2.cells
  have hok := hT2.ok
  have hcap := hok.cap2
  by_cases he : σ.ent n = 0
  · have HE := Lib.hid he
    rw [he]
    clear hc0 hc1 hc2 hc3 hc4 hb2 hB2 hT2 he hok
    go_wp2
    go_ret2
    exact ⟨by show _ = Ending.returned (if σ.ent n = 0 then _ else _); rw [if_pos HE.out]; rfl, hbb⟩
  · have hon := hok.on _ (ent_pos hok h0 he).1
    generalize hE : σ.ent n = E at *
    have HE := Lib.hid hE
    obtain ⟨j, rfl⟩ : ∃ j, E = j + 1 := ⟨E - 1, by omega⟩
    obtain ⟨g, hva, hg, hc⟩ := row_cell (j := j) hT2.vals (by omega)
    rw [hva] at hc5
    have hcj := hc.trans (valR_at σ.cap u j (by omega))
    have hji : (j : Int) < (σ.cap : Int) := by omega
    have HN : Hid (¬ j + 1 = 0) := he
    have hj1 : ¬ ((j : Int) + 1 = 0) := by omega
    have hj0 : (0 : Int) ≤ (j : Int) := by omega
    clear hc0 hc1 hc2 hc3 hc4 hb2 hB2 hT2 he hok hc hE
    generalize hU : u (j + 1) = U at hcj
    have HUU := Lib.hid hU
    clear hU hva
    go_wp2
    go_ret2
    exact ⟨by show _ = Ending.returned (if σ.ent n = 0 then _ else _); rw [HE.out, if_neg HN.out, HUU.out]; rfl, hbb⟩
end
end Go.Proofs.Ytnikbnbmbifcjaa
