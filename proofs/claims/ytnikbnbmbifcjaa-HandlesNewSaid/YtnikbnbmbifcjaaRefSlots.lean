/- The reference's allocator of slots keeps the plain state: what its functions return and leave. -/
import Derived.Test.YtnikbnbmbifcjaaSlotsCon
import Derived.BigGuardPart
import Derived.Deep.RegionLaw
set_option linter.unusedVariables false
namespace Go.Proofs.Ytnikbnbmbifcjaa
open Go.RowKit

def gens (σ : St) : List Value := (List.range σ.cap).map fun j => .int .u32 (σ.gen (j + 1))
def ons (σ : St) : List Value := (List.range σ.cap).map fun j => .bool (σ.on (j + 1))
theorem gens_at (σ : St) (j : Nat) (h : j < σ.cap) : (gens σ)[j]? = some (.int .u32 (σ.gen (j + 1))) := by simp [gens, h]
theorem ons_at (σ : St) (j : Nat) (h : j < σ.cap) : (ons σ)[j]? = some (.bool (σ.on (j + 1))) := by simp [ons, h]
/-- the five fields -/
structure RefAt (B : Nat) (G : Nat → Prop) (w : World) (σ : St) (st : List Nat) (fr : Nat) (sa ga oa : Option Addr) (sc gc oc : Nat) : Prop where
  free : σ.free = st.reverse ++ List.range' fr (σ.cap + 1 - fr)
  fr1 : 1 ≤ fr
  fr2 : fr ≤ σ.cap + 1
  stack : w.ownsRow B 32 1 (.slice sa st.length sc) st.length (u32s st)
  gen : w.ownsRow B 32 1 (.slice ga σ.cap gc) σ.cap (gens σ)
  on : w.ownsRow B 4 1 (.slice oa σ.cap oc) σ.cap (ons σ)
  inS : ∀ k, (Value.slice sa st.length sc).ownBlock = some k → G k
  inG : ∀ k, (Value.slice ga σ.cap gc).ownBlock = some k → G k
  inO : ∀ k, (Value.slice oa σ.cap oc).ownBlock = some k → G k
def refV (σ : St) (st : List Nat) (fr : Nat) (sa ga oa : Option Addr) (sc gc oc : Nat) : Array Value :=
  #[.int .i64 (σ.cap : Int), .slice sa st.length sc, .int .i64 (fr : Int), .slice ga σ.cap gc, .slice oa σ.cap oc]
theorem RefAt.keep {B : Nat} {G G' : Nat → Prop} {w w' : World} {σ : St} {st : List Nat} {fr : Nat} {sa ga oa : Option Addr} {sc gc oc : Nat} (h : RefAt B G w σ st fr sa ga oa sc gc oc)
    (hk : ∀ k, G k → w'.heap[k]? = w.heap[k]?) (hG : ∀ k, G k → G' k) : RefAt B G' w' σ st fr sa ga oa sc gc oc :=
  ⟨h.free, h.fr1, h.fr2, row_keep h.stack fun k hk2 => hk k (h.inS k hk2), row_keep h.gen fun k hk2 => hk k (h.inG k hk2), row_keep h.on fun k hk2 => hk k (h.inO k hk2),
    fun k hk2 => hG k (h.inS k hk2), fun k hk2 => hG k (h.inG k hk2), fun k hk2 => hG k (h.inO k hk2)⟩
theorem RefAt.below {B : Nat} {G : Nat → Prop} {w w' : World} {σ : St} {st : List Nat} {fr : Nat} {sa ga oa : Option Addr} {sc gc oc : Nat} (h : RefAt B G w σ st fr sa ga oa sc gc oc)
    (hb : Below w.heap.size w w') : RefAt B G w' σ st fr sa ga oa sc gc oc :=
  ⟨h.free, h.fr1, h.fr2, row_below h.stack hb, row_below h.gen hb, row_below h.on hb, h.inS, h.inG, h.inO⟩

section
variable {B : Nat} {G : Nat → Prop} {w : World} {σ : St} {st : List Nat} {fr : Nat} {sa ga oa : Option Addr} {sc gc oc : Nat}

set_option maxHeartbeats 1000000 in
set_option maxRecDepth 100000 in
theorem ref_on (h : RefAt B G w σ st fr sa ga oa sc gc oc) (hok : σ.Ok) (i : Nat) (hi : i < 4294967296) :
    Calls Try.prog 39 #[.agg (refV σ st fr sa ga oa sc gc oc), .int .u32 (i : Int)] w (Calm w (.bool (σ.on i))) := by
  have hcap := hok.cap2
  have hbl : ∀ ob, Below w.heap.size w (w.alloc ob) := fun ob => (Below.refl _ _).alloc (Nat.le_refl _) _
  by_cases h1 : 1 ≤ i ∧ i ≤ σ.cap
  · obtain ⟨h1, h2⟩ := h1
    obtain ⟨g, rfl, hg, hc⟩ := row_cell (j := i - 1) h.on (by omega)
    have hc2 := hc.trans (ons_at σ (i - 1) (by omega))
    rw [Nat.sub_add_cancel h1] at hc2
    have hi1 : (1 : Int) ≤ (i : Int) := by omega
    have hi2 : (i : Int) ≤ (σ.cap : Int) := by omega
    have hi3 : ((i : Int) - 1).toNat = i - 1 := by omega
    generalize σ.on i = b at hc2
    have HB := Lib.hid hbl
    clear h hc hok hbl
    unfold refV
    go_enter Try.func39, Try.ntmps39
    go_wp2
    go_ret
    exact ⟨rfl, HB.out _⟩
  · have hoff : σ.on i = false := by
      cases ho : σ.on i with
      | true => exact absurd (hok.on i ho) h1
      | false => rfl
    have HO := Lib.hid hoff
    have HB := Lib.hid hbl
    unfold refV
    by_cases h0 : i < 1
    · obtain rfl : i = 0 := by omega
      clear h hok hbl hoff h1 h0
      go_enter Try.func39, Try.ntmps39
      go_wp2
      go_ret
      exact ⟨by rw [HO.out]; rfl, HB.out _⟩
    · have hi1 : (1 : Int) ≤ (i : Int) := by omega
      have hi2 : (σ.cap : Int) < (i : Int) := by omega
      clear h hok hbl hoff h1 h0
      go_enter Try.func39, Try.ntmps39
      go_wp2
      go_ret
      exact ⟨by rw [HO.out]; rfl, HB.out _⟩

set_option maxHeartbeats 1000000 in
set_option maxRecDepth 100000 in
theorem ref_gen (h : RefAt B G w σ st fr sa ga oa sc gc oc) (hok : σ.Ok) (i : Nat) (hi : i < 4294967296) :
    Calls Try.prog 38 #[.agg (refV σ st fr sa ga oa sc gc oc), .int .u32 (i : Int)] w (Calm w (.int .u32 (σ.gen i))) := by
  have hcap := hok.cap2
  have hbl : ∀ ob, Below w.heap.size w (w.alloc ob) := fun ob => (Below.refl _ _).alloc (Nat.le_refl _) _
  have HB := Lib.hid hbl
  by_cases h1 : 1 ≤ i ∧ i ≤ σ.cap
  · obtain ⟨h1, h2⟩ := h1
    obtain ⟨g, rfl, hg, hc⟩ := row_cell (j := i - 1) h.gen (by omega)
    have hc2 := hc.trans (gens_at σ (i - 1) (by omega))
    rw [Nat.sub_add_cancel h1] at hc2
    have hi1 : (1 : Int) ≤ (i : Int) := by omega
    have hi2 : (i : Int) ≤ (σ.cap : Int) := by omega
    have hi3 : ((i : Int) - 1).toNat = i - 1 := by omega
    generalize σ.gen i = b at hc2
    clear h hc hok hbl
    unfold refV
    go_enter Try.func38, Try.ntmps38
    go_wp2
    go_ret
    exact ⟨rfl, HB.out _⟩
  · have HO := Lib.hid (hok.out i (by omega))
    unfold refV
    by_cases h0 : i < 1
    · obtain rfl : i = 0 := by omega
      clear h hok hbl h1 h0
      go_enter Try.func38, Try.ntmps38
      go_wp2
      go_ret
      exact ⟨by rw [HO.out]; rfl, HB.out _⟩
    · have hi1 : (1 : Int) ≤ (i : Int) := by omega
      have hi0 : ¬ (i : Int) < 1 := by omega
      have hi2 : (σ.cap : Int) < (i : Int) := by omega
      clear h hok hbl h1 h0
      go_enter Try.func38, Try.ntmps38
      go_wp2
      go_ret
      exact ⟨by rw [HO.out]; rfl, HB.out _⟩

/-- the call returned a slice of the call's own with the free slots -/
def RefOrder (w : World) (σ : St) (e : Ending) (w' : World) : Prop :=
  ∃ a c, e = .returned (.slice a σ.free.length c) ∧ w'.ownsRow w.heap.size 32 1 (.slice a σ.free.length c) σ.free.length (u32s σ.free) ∧ Below w.heap.size w w'
def OutRel (w w1 : World) (l : List Nat) (x : Value) (wr : World) : Prop := wr.ownsRow (w.heap.size + 1) 32 1 x l.length (u32s l) ∧ Below (w.heap.size + 1) w1 wr
theorem u32s_snoc (l : List Nat) (i : Nat) : u32s (l ++ [i]) = u32s l ++ [.int .u32 (i : Int)] := by simp [u32s]
theorem u32sInfo : (Try.prog.info? 32).map (fun i => (i.zero, i.size, i.bytes)) = some (some (.int .u32 0), 1, 4) := by kernel_rfl
theorem u32s_get {l : List Nat} {j : Nat} (h : j < l.length) : (u32s l)[j]? = some (.int .u32 ((l.getD j 0 : Nat) : Int)) := by
  simp [u32s, List.getD_eq_getElem?_getD, h]
theorem drop_rev {l : List Nat} {j : Nat} (h : j < l.length) : (l.drop j).reverse = (l.drop (j + 1)).reverse ++ [l.getD j 0] := by
  rw [List.drop_eq_getElem_cons h, List.reverse_cons, List.getD_eq_getElem?_getD, List.getElem?_eq_getElem h]; rfl

end
end Go.Proofs.Ytnikbnbmbifcjaa
