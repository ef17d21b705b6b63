/- Sound returns true of an arena whose counts are right, if the roots are what is held. Condition: the reference's Check keeps its contract. -/
import Derived.Test.YtnmookemeibioaaSoundP
import Derived.Test.YtnmookemeibioaaChkS
import Derived.Test.YtnmookemeibioaaPlay1
set_option linter.unusedVariables false
namespace Go.Proofs.Ytnmookemeibioaa
open Go.RowKit

def FdsRes (w : World) (l : List Fd) (e : Ending) (w' : World) : Prop :=
  ∃ a c, e = .returned (.slice a l.length c) ∧ w'.ownsRow w.heap.size 114 4 (.slice a l.length c) l.length (fdsV l) ∧ Below w.heap.size w w'
/-- what is asked of the reference's Check -/
def CheckSpec : Prop := ∀ (w : World) (a b ra : Option Addr) (n c d rc : Nat) (S : Nat → Sl) (fr rs : List Nat), SlotsAt w a n S → U32At w b fr → U32At w ra rs → n ≤ 65536 → fr.length ≤ 1000000 → rs.length ≤ 1000000 → ∀ R : Nat → Bool, (∀ j, j < n → (R j = true ↔ Rch S n rs (j + 1))) →
    Calls Try.prog 69 #[.agg #[.slice a n c, .slice b fr.length d], .slice ra rs.length rc] w (FdsRes w (chk S n fr rs R))
theorem flat_at {α : Type} {f : α → List Value} {m : Nat} (hm : ∀ x, (f x).length = m) : ∀ (l : List α) (i j : Nat) (x : α), l[i]? = some x → j < m → (l.flatMap f)[i * m + j]? = (f x)[j]?
  | [], i, j, x, h, hj => by simp at h
  | a :: t, 0, j, x, h, hj => by
    simp at h
    subst h
    rw [List.flatMap_cons, Nat.zero_mul, Nat.zero_add, List.getElem?_append_left (by rw [hm]; exact hj)]
  | a :: t, i + 1, j, x, h, hj => by
    simp at h
    rw [List.flatMap_cons, List.getElem?_append_right (by rw [hm, Nat.succ_mul]; omega), hm, show (i + 1) * m + j - m = i * m + j by rw [Nat.succ_mul]; omega]
    exact flat_at hm t i j x h hj
/-- a dump's row of slots, read -/
theorem slots_at {w : World} {B c : Nat} {a : Option Addr} {A : Ar} {st : List Nat} {held : Nat → Nat} (hI : A.Inv st held) (h : w.ownsRow B 82 11 (.slice a A.σ.cap c) A.σ.cap (slotsV A)) : SlotsAt w a A.σ.cap A.sl := by
  have hcap := hI.ok.cap2
  refine ⟨fun i hi => ?_, fun i hi => ?_⟩
  · rcases h.2 with ⟨hv, hn⟩ | ⟨g, cap, cur, hv, hB, hc, hn, hcm, hs, ht⟩
    · omega
    · simp only [Value.slice.injEq] at hv
      obtain ⟨rfl, _, _⟩ := hv
      refine ⟨g, 0, rfl, (Array.getElem?_eq_some_iff.1 hc).1, fun j v hv => ?_⟩
      have hj : j < 11 := by have := (List.getElem?_eq_some_iff.1 hv).1; simpa [slV] using this
      rw [Nat.zero_add, h.cellAt (i * 11 + j) (by omega)]
      have h1 := flat_at (f := slotV A) (m := 11) (fun x => rfl) (List.range' 1 A.σ.cap) i j (i + 1) (by rw [List.getElem?_range' hi]; simp; omega) hj
      show ((List.range' 1 A.σ.cap).flatMap (slotV A))[i * 11 + j]? = some v
      rw [h1]
      exact hv
  · show (A.nd (i + 1)).left < _ ∧ (A.nd (i + 1)).right < _
    by_cases ho : A.σ.on (i + 1) = true
    · have hc := hI.child (i + 1) ho
      have key : ∀ y, (y = 0 ∨ A.σ.on y = true) → y < 4294967296 := fun y hy => by
        rcases hy with hy | hy
        · omega
        · have := hI.ok.on y hy; omega
      exact ⟨key _ hc.1, key _ hc.2⟩
    · rw [(hI.off (i + 1) (by simpa using ho)).2]
      exact ⟨by decide, by decide⟩
theorem row_u32 {w : World} {B c : Nat} {a : Option Addr} {l : List Nat} (h : w.ownsRow B 41 1 (.slice a l.length c) l.length (u32s l)) (hl : ∀ y ∈ l, y < 4294967296) : U32At w a l := by
  refine ⟨fun j hj => ?_, hl⟩
  obtain ⟨g, rfl, hg, hc⟩ := row_cell h hj
  refine ⟨g, 0, rfl, hg, ?_⟩
  rw [Nat.zero_add, hc]
  simp [u32s, List.getD_eq_getElem?_getD, hj]
set_option maxHeartbeats 1000000 in
set_option maxRecDepth 100000 in
theorem clean_any (hchk : CheckSpec) {w : World} {a b ra : Option Addr} {n c d rc : Nat} {S : Nat → Sl} (fr rs : List Nat) (h : SlotsAt w a n S) (hf : U32At w b fr) (hr : U32At w ra rs) (hn : n ≤ 65536) (hfl : fr.length ≤ 1000000) (hl : rs.length ≤ 1000000) (R : Nat → Bool) (hR : ∀ j, j < n → (R j = true ↔ Rch S n rs (j + 1))) (h0 : chk S n fr rs R = []) :
    Calls Try.prog 61 #[.agg #[.slice a n c, .slice b fr.length d], .slice ra rs.length rc] w (Calm w (.bool true)) := by
  have hb := below_new w (Obj.cells #[Value.slice a n c, Value.slice b fr.length d] 35)
  have hh := h.below hb
  have hff := hf.below hb
  have hrr := hr.below hb
  obtain ⟨hc0, hc1⟩ := (DBox.new w a b n c fr.length d).cells
  obtain ⟨M, hM⟩ : ∃ M, fr.length = M := ⟨_, rfl⟩
  obtain ⟨L, hL⟩ : ∃ L, rs.length = L := ⟨_, rfl⟩
  have hcall := hchk _ a b ra n c d rc S fr rs hh hff hrr hn hfl hl R hR
  rw [h0] at hcall
  rw [hM, hL] at hcall
  rw [hM] at hc0 hc1 hb ⊢
  rw [hL]
  have HC := Lib.hid hcall
  have HB := Lib.hid hb
  clear h hf hr hh hff hrr hR h0 hcall hM hL hb hfl hl
  go_enter Try.func61, Try.ntmps61
  go_wp2_with fail
  refine HC.out.mono ?_
  rintro e w2 ⟨ra', rc', rfl, _, hb2⟩
  have hbb := HB.out.trans (hb2.mono HB.out.size)
  have HBB := Lib.hid hbb
  clear hb2 hbb hc0 hc1
  rw [show ([] : List Fd).length = 0 from rfl]
  go_wp2
  go_ret
  exact ⟨rfl, HBB.out⟩
set_option maxHeartbeats 1000000 in
set_option maxRecDepth 100000 in
theorem sound_any (hchk : CheckSpec) (I : AImpl) {w : World} {p : Value} {A : Ar} {rd : Int} {F : Nat → Prop} {l : List Nat} {ra : Option Addr} {rc : Nat} (h : I.Is w p A rd F) (hI : A.Inv [] (hof l)) (hA : A.Agg) (hr : U32At w ra l) (hl : l.length ≤ 1000000) (hi : ∀ x ∈ l, x = 0 ∨ A.σ.on x = true) :
    Calls Try.prog 38 #[p, .slice ra l.length rc] w (Calm w (.bool true)) := by
  obtain ⟨L, hL⟩ : ∃ L, l.length = L := ⟨_, rfl⟩
  have HL := Lib.hid hL
  rw [hL]
  have HR := Lib.hid hr
  have HI := Lib.hid hI
  have HCK : Hid (∀ R : Nat → Bool, (∀ j, j < A.σ.cap → (R j = true ↔ Rch A.sl A.σ.cap l (j + 1))) → chk A.sl A.σ.cap A.σ.free l R = []) := fun R hR => chk_sound hI hA hi hR
  have HX := Lib.hid h
  clear hL hr hI hA hi h
  go_enter Try.func38, Try.ntmps38
  go_wp2_with fail
  refine (I.dump p A rd F w HX.out).mono ?_
  rintro e w2 ⟨a, c, b, d, rfl, hs, hf, hb⟩
  have hlen := HI.out.ok.len
  have hcap := HI.out.ok.cap2
  have hsl := slots_at HI.out hs
  have hfr := row_u32 hf fun y hy => by have := (HI.out.ok.free y).1 hy; omega
  have hrr := HR.out.below hb
  have hcl := clean_any hchk (b := b) (c := c) (d := d) (rc := rc) A.σ.free l hsl hfr hrr hcap (by omega) hl (fun j => @decide (Rch A.sl A.σ.cap l (j + 1)) (Classical.propDecidable _)) (fun j hj => by simp) (HCK.out _ (fun j hj => by simp))
  rw [HL.out] at hcl
  have HCL := Lib.hid hcl
  have HB := Lib.hid hb
  clear hs hf hb hlen hcap hsl hfr hrr hcl hl
  go_wp2_with fail
  refine HCL.out.mono ?_
  rintro e w3 ⟨rfl, hb3⟩
  have hbb := HB.out.trans (hb3.mono HB.out.size)
  have HBB := Lib.hid hbb
  clear hb3 hbb
  go_wp2
  go_ret
  exact ⟨rfl, HBB.out⟩
end Go.Proofs.Ytnmookemeibioaa
