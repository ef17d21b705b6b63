/- The reference's allocator of slots keeps the plain state: what its functions return and leave. -/
import Derived.Test.YtnmookemeibioaaSlotsCon
import Derived.BigGuardPart
import Derived.Deep.RegionLaw
set_option linter.unusedVariables false
namespace Go.Proofs.Ytnmookemeibioaa
open Go.RowKit

def gens (σ : St) : List Value := (List.range σ.cap).map fun j => .int .u32 (σ.gen (j + 1))
def ons (σ : St) : List Value := (List.range σ.cap).map fun j => .bool (σ.on (j + 1))
theorem gens_at (σ : St) (j : Nat) (h : j < σ.cap) : (gens σ)[j]? = some (.int .u32 (σ.gen (j + 1))) := by simp [gens, h]
theorem ons_at (σ : St) (j : Nat) (h : j < σ.cap) : (ons σ)[j]? = some (.bool (σ.on (j + 1))) := by simp [ons, h]
/-- the five fields -/
structure RefAt (B : Nat) (G : Nat → Prop) (w : World) (σ : St) (st : List Nat) (fr : Nat) (sa ga oa : Option Addr) (sc gc oc : Nat) : Prop where
  free : σ.free = st.reverse ++ List.range' fr (σ.cap + 1 - fr)
  fr1 : 1 ≤ fr
  fr2 : fr ≤ σ.cap + 1
  stack : w.ownsRow B 41 1 (.slice sa st.length sc) st.length (u32s st)
  gen : w.ownsRow B 41 1 (.slice ga σ.cap gc) σ.cap (gens σ)
  on : w.ownsRow B 4 1 (.slice oa σ.cap oc) σ.cap (ons σ)
  inS : ∀ k, (Value.slice sa st.length sc).ownBlock = some k → G k
  inG : ∀ k, (Value.slice ga σ.cap gc).ownBlock = some k → G k
  inO : ∀ k, (Value.slice oa σ.cap oc).ownBlock = some k → G k
def refV (σ : St) (st : List Nat) (fr : Nat) (sa ga oa : Option Addr) (sc gc oc : Nat) : Array Value :=
  #[.int .i64 (σ.cap : Int), .slice sa st.length sc, .int .i64 (fr : Int), .slice ga σ.cap gc, .slice oa σ.cap oc]
theorem RefAt.keep {B : Nat} {G G' : Nat → Prop} {w w' : World} {σ : St} {st : List Nat} {fr : Nat} {sa ga oa : Option Addr} {sc gc oc : Nat} (h : RefAt B G w σ st fr sa ga oa sc gc oc)
    (hk : ∀ k, G k → w'.heap[k]? = w.heap[k]?) (hG : ∀ k, G k → G' k) : RefAt B G' w' σ st fr sa ga oa sc gc oc :=
  ⟨h.free, h.fr1, h.fr2, row_keep h.stack fun k hk2 => hk k (h.inS k hk2), row_keep h.gen fun k hk2 => hk k (h.inG k hk2), row_keep h.on fun k hk2 => hk k (h.inO k hk2),
    fun k hk2 => hG k (h.inS k hk2), fun k hk2 => hG k (h.inG k hk2), fun k hk2 => hG k (h.inO k hk2)⟩
theorem RefAt.below {B : Nat} {G : Nat → Prop} {w w' : World} {σ : St} {st : List Nat} {fr : Nat} {sa ga oa : Option Addr} {sc gc oc : Nat} (h : RefAt B G w σ st fr sa ga oa sc gc oc)
    (hb : Below w.heap.size w w') : RefAt B G w' σ st fr sa ga oa sc gc oc :=
  ⟨h.free, h.fr1, h.fr2, row_below h.stack hb, row_below h.gen hb, row_below h.on hb, h.inS, h.inG, h.inO⟩

section
variable {B : Nat} {G : Nat → Prop} {w : World} {σ : St} {st : List Nat} {fr : Nat} {sa ga oa : Option Addr} {sc gc oc : Nat}

set_option maxHeartbeats 1000000 in
set_option maxRecDepth 100000 in
theorem ref_on (h : RefAt B G w σ st fr sa ga oa sc gc oc) (hok : σ.Ok) (i : Nat) (hi : i < 4294967296) :
    Calls Try.prog 52 #[.agg (refV σ st fr sa ga oa sc gc oc), .int .u32 (i : Int)] w (Calm w (.bool (σ.on i))) := by
  have hcap := hok.cap2
  have hbl : ∀ ob, Below w.heap.size w (w.alloc ob) := fun ob => (Below.refl _ _).alloc (Nat.le_refl _) _
  by_cases h1 : 1 ≤ i ∧ i ≤ σ.cap
  · obtain ⟨h1, h2⟩ := h1
    obtain ⟨g, rfl, hg, hc⟩ := row_cell (j := i - 1) h.on (by omega)
    have hc2 := hc.trans (ons_at σ (i - 1) (by omega))
    rw [Nat.sub_add_cancel h1] at hc2
    have hi1 : (1 : Int) ≤ (i : Int) := by omega
    have hi2 : (i : Int) ≤ (σ.cap : Int) := by omega
    have hi3 : ((i : Int) - 1).toNat = i - 1 := by omega
    generalize σ.on i = b at hc2
    have HB := Lib.hid hbl
    clear h hc hok hbl
    unfold refV
    go_enter Try.func52, Try.ntmps52
    go_wp2
    go_ret
    exact ⟨rfl, HB.out _⟩
  · have hoff : σ.on i = false := by
      cases ho : σ.on i with
      | true => exact absurd (hok.on i ho) h1
      | false => rfl
    have HO := Lib.hid hoff
    have HB := Lib.hid hbl
    unfold refV
    by_cases h0 : i < 1
    · obtain rfl : i = 0 := by omega
      clear h hok hbl hoff h1 h0
      go_enter Try.func52, Try.ntmps52
      go_wp2
      go_ret
      exact ⟨by rw [HO.out]; rfl, HB.out _⟩
    · have hi1 : (1 : Int) ≤ (i : Int) := by omega
      have hi2 : (σ.cap : Int) < (i : Int) := by omega
      clear h hok hbl hoff h1 h0
      go_enter Try.func52, Try.ntmps52
      go_wp2
      go_ret
      exact ⟨by rw [HO.out]; rfl, HB.out _⟩

set_option maxHeartbeats 1000000 in
set_option maxRecDepth 100000 in
theorem ref_gen (h : RefAt B G w σ st fr sa ga oa sc gc oc) (hok : σ.Ok) (i : Nat) (hi : i < 4294967296) :
    Calls Try.prog 33 #[.agg (refV σ st fr sa ga oa sc gc oc), .int .u32 (i : Int)] w (Calm w (.int .u32 (σ.gen i))) := by
  have hcap := hok.cap2
  have hbl : ∀ ob, Below w.heap.size w (w.alloc ob) := fun ob => (Below.refl _ _).alloc (Nat.le_refl _) _
  have HB := Lib.hid hbl
  by_cases h1 : 1 ≤ i ∧ i ≤ σ.cap
  · obtain ⟨h1, h2⟩ := h1
    obtain ⟨g, rfl, hg, hc⟩ := row_cell (j := i - 1) h.gen (by omega)
    have hc2 := hc.trans (gens_at σ (i - 1) (by omega))
    rw [Nat.sub_add_cancel h1] at hc2
    have hi1 : (1 : Int) ≤ (i : Int) := by omega
    have hi2 : (i : Int) ≤ (σ.cap : Int) := by omega
    have hi3 : ((i : Int) - 1).toNat = i - 1 := by omega
    generalize σ.gen i = b at hc2
    clear h hc hok hbl
    unfold refV
    go_enter Try.func33, Try.ntmps33
    go_wp2
    go_ret
    exact ⟨rfl, HB.out _⟩
  · have HO := Lib.hid (hok.out i (by omega))
    unfold refV
    by_cases h0 : i < 1
    · obtain rfl : i = 0 := by omega
      clear h hok hbl h1 h0
      go_enter Try.func33, Try.ntmps33
      go_wp2
      go_ret
      exact ⟨by rw [HO.out]; rfl, HB.out _⟩
    · have hi1 : (1 : Int) ≤ (i : Int) := by omega
      have hi0 : ¬ (i : Int) < 1 := by omega
      have hi2 : (σ.cap : Int) < (i : Int) := by omega
      clear h hok hbl h1 h0
      go_enter Try.func33, Try.ntmps33
      go_wp2
      go_ret
      exact ⟨by rw [HO.out]; rfl, HB.out _⟩

/-- the call returned a slice of the call's own with the free slots -/
def RefOrder (w : World) (σ : St) (e : Ending) (w' : World) : Prop :=
  ∃ a c, e = .returned (.slice a σ.free.length c) ∧ w'.ownsRow w.heap.size 41 1 (.slice a σ.free.length c) σ.free.length (u32s σ.free) ∧ Below w.heap.size w w'
def OutRel (w w1 : World) (l : List Nat) (x : Value) (wr : World) : Prop := wr.ownsRow (w.heap.size + 1) 41 1 x l.length (u32s l) ∧ Below (w.heap.size + 1) w1 wr
theorem u32s_snoc (l : List Nat) (i : Nat) : u32s (l ++ [i]) = u32s l ++ [.int .u32 (i : Int)] := by simp [u32s]
theorem u32sInfo : (Try.prog.info? 41).map (fun i => (i.zero, i.size, i.bytes)) = some (some (.int .u32 0), 1, 4) := by kernel_rfl
theorem u32s_get {l : List Nat} {j : Nat} (h : j < l.length) : (u32s l)[j]? = some (.int .u32 ((l.getD j 0 : Nat) : Int)) := by
  simp [u32s, List.getD_eq_getElem?_getD, h]
theorem drop_rev {l : List Nat} {j : Nat} (h : j < l.length) : (l.drop j).reverse = (l.drop (j + 1)).reverse ++ [l.getD j 0] := by
  rw [List.drop_eq_getElem_cons h, List.reverse_cons, List.getD_eq_getElem?_getD, List.getElem?_eq_getElem h]; rfl

set_option maxHeartbeats 2000000 in
set_option maxRecDepth 100000 in
theorem ref_order (h : RefAt B G w σ st fr sa ga oa sc gc oc) (hok : σ.Ok) :
    Calls Try.prog 36 #[.agg (refV σ st fr sa ga oa sc gc oc)] w (RefOrder w σ) := by
  obtain ⟨i0, hi, hz0, hz1, hz2⟩ := info_parts u32sInfo
  have hcap := hok.cap2
  have hle := hok.len
  have hfr := h.free
  have hst : st.length ≤ 65536 := by rw [hfr] at hle; simp at hle; omega
  have HFR := Lib.hid hfr
  have hr1 := h.fr1
  have hr2 := h.fr2
  have HST := Lib.hid h.stack
  have hci : (σ.cap : Int) ≤ 65536 := by omega
  have hsi : (st.length : Int) ≤ 65536 := by omega
  unfold refV
  clear hle hfr
  go_enter Try.func36, Try.ntmps36
  go_wp2
  generalize hbox : (#[Value.int IntKind.i64 (σ.cap : Int), Value.slice sa st.length sc, Value.int IntKind.i64 (fr : Int), Value.slice ga σ.cap gc, Value.slice oa σ.cap oc] : Array Value) = box
  have hw1 : ∃ w1, w1 = w.alloc (Obj.cells box 56) := ⟨_, rfl⟩
  obtain ⟨w1, hw1⟩ := hw1
  have hs1 : w1.heap.size = w.heap.size + 1 := by rw [hw1]; simp
  have hb1 : Below w.heap.size w w1 := by rw [hw1]; exact (Below.refl _ _).alloc (Nat.le_refl _) _
  have hx1 : w1.cell? ⟨w.heap.size, 1, none⟩ = some (.slice sa st.length sc) := by rw [hw1, cell_of_row _ _ _ _ _ _ (heap_alloc_new w _), ← hbox]; rfl
  have hx0 : w1.cell? ⟨w.heap.size, 0, none⟩ = some (.int .i64 (σ.cap : Int)) := by rw [hw1, cell_of_row _ _ _ _ _ _ (heap_alloc_new w _), ← hbox]; rfl
  have hx2 : w1.cell? ⟨w.heap.size, 2, none⟩ = some (.int .i64 (fr : Int)) := by rw [hw1, cell_of_row _ _ _ _ _ _ (heap_alloc_new w _), ← hbox]; rfl
  rw [← hw1]
  have HX0 := Lib.hid hx0
  have HX1 := Lib.hid hx1
  have HX2 := Lib.hid hx2
  have HS1 := Lib.hid hs1
  clear hw1 hbox hx0 hx1 hx2 hs1 h
  go_loopw [3, 4] (fun x i wr => ∃ j : Nat, j ≤ st.length ∧ i = .int .i64 ((j : Int) - 1) ∧ OutRel w w1 (st.drop j).reverse x wr) (fun _ i _ => (intOf i + 1).toNat)
  case atStart => exact ⟨st.length, Nat.le_refl _, rfl, by rw [List.drop_length]; exact World.ownsRow_nil _ _ _ _, Below.refl _ _⟩
  case round =>
    obtain ⟨j, hj, rfl, ho, hb⟩ := hrel
    have hc1 := (hb.cell (p := ⟨w.heap.size, 1, none⟩) (by show w.heap.size < w.heap.size + 1; omega)).trans HX1.out
    have hc0 := (hb.cell (p := ⟨w.heap.size, 0, none⟩) (by show w.heap.size < w.heap.size + 1; omega)).trans HX0.out
    have hc2 := (hb.cell (p := ⟨w.heap.size, 2, none⟩) (by show w.heap.size < w.heap.size + 1; omega)).trans HX2.out
    have hbw : Below w.heap.size w wr := hb1.trans (hb.mono (by omega))
    by_cases h0 : 0 < j
    · obtain ⟨k, rfl⟩ : ∃ k, j = k + 1 := ⟨j - 1, by omega⟩
      obtain ⟨g, rfl, hg, hc⟩ := row_cell (j := k) (row_below HST.out hbw) (by omega)
      have hc3 := hc.trans (u32s_get (by omega))
      have hdr := drop_rev (l := st) (j := k) (by omega)
      have HD := Lib.hid hdr
      have hlen : (st.drop (k + 1)).reverse.length ≤ 65536 := by simp; omega
      generalize st.getD k 0 = X at hc3 HD
      generalize (st.drop (k + 1)).reverse = R at ho hlen HD
      have hki : (((k + 1 : Nat) : Int) - 1) = (k : Int) := by omega
      rw [hki]
      have hk0 : (0 : Int) ≤ (k : Int) := by omega
      have hkl : (k : Int) < (st.length : Int) := by omega
      have hal := (Below.refl wr.heap.size wr).alloc (Nat.le_refl _) (Obj.cells #[Value.int .u32 (X : Int)] 41)
      have hsz : w.heap.size + 1 ≤ wr.heap.size := by rw [← HS1.out]; exact hb.size
      have ho2 := row_below ho hal
      have hb2 : Below (w.heap.size + 1) w1 (wr.alloc (Obj.cells #[Value.int .u32 (X : Int)] 41)) := hb.trans (hal.mono hsz)
      clear hdr hc ho hki h0 hal hb hc0 hc2
      go_wp2_with (at_builtin; refine wpList_append_own _ rfl (.tmp 14) (.tmp 20) 33 rfl (w.heap.size + 1) 41 i0 (.int .u32 0) 1 4 Try.underlying33 hi hz0 hz1 hz2 rfl (by decide) _ R.length (u32s R) rfl ho2 ⟨wr.heap.size, 0, none⟩ 1 1 [.int .u32 (X : Int)] rfl rfl (cell_new1 _ _ _) (one_cell1 _ _) (by unfold maxLen; omega) (by omega) (by simp; omega) ?_; intro v2 w2 ho3 hg2 _)
      have hb3 : Below (w.heap.size + 1) w1 w2 := hb2.grown hg2 (by simp; omega) (row_from ho2)
      refine ⟨⟨k, by omega, rfl, ?_, hb3⟩, by simp [intOf]⟩
      rw [HD.out, u32s_snoc, List.length_append]
      exact ho3
    · obtain rfl : j = 0 := by omega
      rw [List.drop_zero] at ho
      have hm1 : ((0 : Nat) : Int) - 1 = -1 := by omega
      rw [hm1]
      generalize hR : st.reverse = R at ho
      have HR := Lib.hid hR
      have hRl : R.length ≤ 65536 := by rw [← hR]; simp; omega
      have HRL := Lib.hid hRl
      have hsz : w.heap.size + 1 ≤ wr.heap.size := by rw [← HS1.out]; exact hb.size
      clear h0 hm1 hR hRl
      go_wp2
      go_loopw [3, 5] (fun x i wr => ∃ m : Nat, m ≤ σ.cap + 1 - fr ∧ i = .int .i64 (((fr + m : Nat)) : Int) ∧ OutRel w w1 (R ++ List.range' fr m) x wr) (fun _ i _ => σ.cap + 1 - (intOf i).toNat)
      case atStart => exact ⟨0, Nat.zero_le _, rfl, by simpa using ho, hb⟩
      case round =>
        clear ho hb hc0 hc1 hc2 hbw hsz
        obtain ⟨m, hm, rfl, ho, hb⟩ := hrel
        have hc0 := (hb.cell (p := ⟨w.heap.size, 0, none⟩) (by show w.heap.size < w.heap.size + 1; omega)).trans HX0.out
        have hsz : w.heap.size + 1 ≤ wr.heap.size := by rw [← HS1.out]; exact hb.size
        by_cases hlt : fr + m ≤ σ.cap
        · have hD : R ++ List.range' fr (m + 1) = (R ++ List.range' fr m) ++ [fr + m] := by rw [List.range'_concat]; simp
          have HD := Lib.hid hD
          have hlen : (R ++ List.range' fr m).length ≤ 131072 := by have := HRL.out; simp; omega
          generalize R ++ List.range' fr m = Q at ho hlen HD
          obtain ⟨X, hX⟩ : ∃ X, X = fr + m := ⟨_, rfl⟩
          rw [← hX]
          have hki : (X : Int) ≤ (σ.cap : Int) := by omega
          have HX := Lib.hid hX
          have hal := (Below.refl wr.heap.size wr).alloc (Nat.le_refl _) (Obj.cells #[Value.int .u32 (X : Int)] 41)
          have ho2 := row_below ho hal
          have hb2 : Below (w.heap.size + 1) w1 (wr.alloc (Obj.cells #[Value.int .u32 (X : Int)] 41)) := hb.trans (hal.mono hsz)
          clear hD ho hal hb hX hlt
          go_wp2_with (at_builtin; refine wpList_append_own _ rfl (.tmp 30) (.tmp 33) 33 rfl (w.heap.size + 1) 41 i0 (.int .u32 0) 1 4 Try.underlying33 hi hz0 hz1 hz2 rfl (by decide) _ Q.length (u32s Q) rfl ho2 ⟨wr.heap.size, 0, none⟩ 1 1 [.int .u32 (X : Int)] rfl rfl (cell_new1 _ _ _) (one_cell1 _ _) (by unfold maxLen; omega) (by omega) (by simp; omega) ?_; intro v2 w2 ho3 hg2 _)
          have hb3 : Below (w.heap.size + 1) w1 w2 := hb2.grown hg2 (by simp; omega) (row_from ho2)
          have hXX := HX.out
          refine ⟨⟨m + 1, by omega, by (rw [hXX]; congr 1), ?_, hb3⟩, by simp [intOf]; omega⟩
          rw [HD.out, u32s_snoc, List.length_append, ← hXX]
          exact ho3
        · have hfree : R ++ List.range' fr m = σ.free := by
            obtain rfl : m = σ.cap + 1 - fr := by omega
            rw [HFR.out, HR.out]
          rw [hfree] at ho
          have hki : (σ.cap : Int) < ((fr + m : Nat) : Int) := by omega
          obtain ⟨va, vc, rfl⟩ := row_val ho
          have hbw : Below w.heap.size w wr := hb1.trans (hb.mono (by omega))
          clear hfree
          go_wp2
          go_ret
          exact ⟨va, vc, rfl, row_mono ho (by omega), hbw⟩
end
end Go.Proofs.Ytnmookemeibioaa
