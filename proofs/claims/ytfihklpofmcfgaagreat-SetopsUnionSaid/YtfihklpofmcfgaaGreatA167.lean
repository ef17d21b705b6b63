/- Of the proofs of SetopsUnion, SetopsIntersect, SetopsSubtract: SoundW, ScnMut, RefRsv, Got, RefTree, But, RefShape. -/
import Derived.Test.YtfihklpofmcfgaaGreatA166
import Derived.Deep.DeepCutAuto
import Derived.Deep.RegionHeldLaw
import Derived.Deep.RegionHeld3
set_option linter.unusedVariables false
namespace Go.Proofs.YtfihklpofmcfgaaGreat
open Go.RowKit
def FdsRes (w : World) (l : List Fd) (e : Ending) (w' : World) : Prop :=
  ∃ a c, e = .returned (.slice a l.length c) ∧ w'.ownsRow w.heap.size 164 4 (.slice a l.length c) l.length (fdsV l) ∧ Below w.heap.size w w'
/-- what is asked of the reference's Check -/
def CheckSpec : Prop := ∀ (w : World) (a b ra : Option Addr) (n c d rc : Nat) (S : Nat → Sl) (fr rs : List Nat), SlotsAt w a n S → U32At w b fr → U32At w ra rs → n ≤ 65536 → fr.length ≤ 1000000 → rs.length ≤ 1000000 → ∀ R : Nat → Bool, (∀ j, j < n → (R j = true ↔ Rch S n rs (j + 1))) →
    Calls Tryz.prog 89 #[.agg #[.slice a n c, .slice b fr.length d], .slice ra rs.length rc] w (FdsRes w (chk S n fr rs R))
set_option maxHeartbeats 1000000 in
set_option maxRecDepth 100000 in
theorem clean_any (hchk : CheckSpec) {w : World} {a b ra : Option Addr} {n c d rc : Nat} {S : Nat → Sl} (fr rs : List Nat) (h : SlotsAt w a n S) (hf : U32At w b fr) (hr : U32At w ra rs) (hn : n ≤ 65536) (hfl : fr.length ≤ 1000000) (hl : rs.length ≤ 1000000) (R : Nat → Bool) (hR : ∀ j, j < n → (R j = true ↔ Rch S n rs (j + 1))) (h0 : chk S n fr rs R = []) :
    Calls Tryz.prog 63 #[.agg #[.slice a n c, .slice b fr.length d], .slice ra rs.length rc] w (Calm w (.bool true)) := by
  have hb := below_new w (Obj.cells #[Value.slice a n c, Value.slice b fr.length d] 33)
  have hh := h.below hb
  have hff := hf.below hb
  have hrr := hr.below hb
  obtain ⟨hc0, hc1⟩ := (DBox.new w a b n c fr.length d).cells
  obtain ⟨M, hM⟩ : ∃ M, fr.length = M := ⟨_, rfl⟩
  obtain ⟨L, hL⟩ : ∃ L, rs.length = L := ⟨_, rfl⟩
  have hcall := hchk _ a b ra n c d rc S fr rs hh hff hrr hn hfl hl R hR
  rw [h0] at hcall
  rw [hM, hL] at hcall
  rw [hM] at hc0 hc1 hb ⊢
  rw [hL]
  have HC := Lib.hid hcall
  have HB := Lib.hid hb
  clear h hf hr hh hff hrr hR h0 hcall hM hL hb hfl hl
  go_enter Tryz.func63, Tryz.ntmps63
  go_wp2_with fail
  refine HC.out.mono ?_
  rintro e w2 ⟨ra', rc', rfl, _, hb2⟩
  have hbb := HB.out.trans (hb2.mono HB.out.size)
  have HBB := Lib.hid hbb
  clear hb2 hbb hc0 hc1
  rw [show ([] : List Fd).length = 0 from rfl]
  go_wp2
  go_ret
  exact ⟨rfl, HBB.out⟩
set_option maxHeartbeats 1000000 in
set_option maxRecDepth 100000 in
theorem sound_any (hchk : CheckSpec) (I : AImpl) {w : World} {p : Value} {A : Ar} {rd : Int} {F : Nat → Prop} {l : List Nat} {ra : Option Addr} {rc : Nat} (h : I.Is w p A rd F) (hI : A.Inv [] (hof l)) (hA : A.Agg) (hr : U32At w ra l) (hl : l.length ≤ 1000000) (hi : ∀ x ∈ l, x = 0 ∨ A.σ.on x = true) :
    Calls Tryz.prog 33 #[p, .slice ra l.length rc] w (Calm w (.bool true)) := by
  obtain ⟨L, hL⟩ : ∃ L, l.length = L := ⟨_, rfl⟩
  have HL := Lib.hid hL
  rw [hL]
  have HR := Lib.hid hr
  have HI := Lib.hid hI
  have HCK : Hid (∀ R : Nat → Bool, (∀ j, j < A.σ.cap → (R j = true ↔ Rch A.sl A.σ.cap l (j + 1))) → chk A.sl A.σ.cap A.σ.free l R = []) := fun R hR => chk_sound hI hA hi hR
  have HX := Lib.hid h
  clear hL hr hI hA hi h
  go_enter Tryz.func33, Tryz.ntmps33
  go_wp2_with fail
  refine (I.dump p A rd F w HX.out).mono ?_
  rintro e w2 ⟨a, c, b, d, rfl, hs, hf, hb⟩
  have hlen := HI.out.ok.len
  have hcap := HI.out.ok.cap2
  have hsl := slots_at HI.out hs
  have hfr := row_u32 hf fun y hy => by have := (HI.out.ok.free y).1 hy; omega
  have hrr := HR.out.below hb
  have hcl := clean_any hchk (b := b) (c := c) (d := d) (rc := rc) A.σ.free l hsl hfr hrr hcap (by omega) hl (fun j => @decide (Rch A.sl A.σ.cap l (j + 1)) (Classical.propDecidable _)) (fun j hj => by simp) (HCK.out _ (fun j hj => by simp))
  rw [HL.out] at hcl
  have HCL := Lib.hid hcl
  have HB := Lib.hid hb
  clear hs hf hb hlen hcap hsl hfr hrr hcl hl
  go_wp2_with fail
  refine HCL.out.mono ?_
  rintro e w3 ⟨rfl, hb3⟩
  have hbb := HB.out.trans (hb3.mono HB.out.size)
  have HBB := Lib.hid hbb
  clear hb3 hbb
  go_wp2
  go_ret
  exact ⟨rfl, HBB.out⟩
end Go.Proofs.YtfihklpofmcfgaaGreat
set_option linter.unusedSimpArgs false
namespace Go.Proofs.YtfihklpofmcfgaaGreat
open Go.RowKit
theorem MR.stepA {I : AImpl} {B : Nat} {w0 w w' : World} {p : Value} {A A' : Ar} {rd rd' : Int} {G F F' : Nat → Prop} (h : MR I B w0 w p A rd G) (hF : ∀ k, F k → B ≤ k) (hG : ∀ k, G k → k < w.heap.size ∧ ¬ F k) (hal : Alters F F' w w') (hI : I.Is w' p A' rd' F') : MR I B w0 w' p A' rd' G ∧ Keeps G w w' :=
  ⟨⟨⟨F', hI, hal.from h.hB hF, hal.apart hG⟩, hal.below h.below h.hB hF, Nat.le_trans h.hB hal.size⟩, fun k hk => hal.block k (hG k hk).1 (hG k hk).2⟩
/-- a call that alters the arena: what it returns and leaves -/
def Mut (I : AImpl) (p : Value) (F : Nat → Prop) (Q : Ending → Ar → Int → Prop) (w : World) (e : Ending) (w' : World) : Prop :=
  ∃ F' A' rd', Alters F F' w w' ∧ I.Is w' p A' rd' F' ∧ Q e A' rd'
section
variable {I : AImpl} {B : Nat} {w0 w w' : World} {p : Value} {A : Ar} {rd rd' : Int} {rs : List Row} {bs : List (Nat × Obj)}
theorem Scn.stepA {A' : Ar} (h : Scn I B w0 w p A rd rs bs) (hm : MR I B w0 w' p A' rd' (SG rs bs)) (hk : Keeps (SG rs bs) w w') : Scn I B w0 w' p A' rd' rs bs :=
  ⟨hm, fun r hr => row_keep (h.rows r hr) fun k hk' => hk k (.inl ⟨r, hr, hk'⟩), fun b hb => ⟨(h.boxes b hb).1, (hk b.1 (.inr ⟨b, hb, rfl⟩)).trans (h.boxes b hb).2⟩, h.rr, h.bb, h.rb⟩
theorem Scn.mut {f : FuncId} {args : Array Value} {Q : Ending → Ar → Int → Prop} (h : Scn I B w0 w p A rd rs bs) (hc : ∀ F, I.Is w p A rd F → Calls Tryz.prog f args w (Mut I p F Q w)) :
    Calls Tryz.prog f args w fun e w' => ∃ A' rd', Q e A' rd' ∧ Scn I B w0 w' p A' rd' rs bs := by
  obtain ⟨F, f1, f2, f3⟩ := h.mr.has
  refine (hc F f1).mono ?_
  rintro e w1 ⟨F', A', rd', hal, hI, hq⟩
  have hst := h.mr.stepA f2 f3 hal hI
  exact ⟨A', rd', hq, h.stepA hst.1 hst.2⟩
theorem Scn.sound (hchk : CheckSpec) (h : Scn I B w0 w p A rd rs bs) {l : List Nat} {ra : Option Addr} {L rc : Nat} (hv : A.Inv [] (hof l)) (hA : A.Agg) (hr : U32At w ra l) (hL : l.length = L) (hl : L ≤ 1000000) (hi : ∀ x ∈ l, x = 0 ∨ A.σ.on x = true) :
    Calls Tryz.prog 33 #[p, .slice ra L rc] w (Calm w (.bool true)) := by
  subst hL
  obtain ⟨F, f1, _⟩ := h.mr.has
  exact sound_any hchk I f1 hv hA hr hl hi
end
/-- a dump's rows, later -/
theorem Scn.slots_of {I : AImpl} {B : Nat} {w0 w : World} {p : Value} {A A0 : Ar} {rd : Int} {rs : List Row} {bs : List (Nat × Obj)} {st : List Nat} {held : Nat → Nat} {a : Option Addr} {c N : Nat} (h : Scn I B w0 w p A rd rs bs) (hv : A0.Inv st held) (hN : A0.σ.cap = N) (hm : (⟨87, 11, .slice a N c, N, slotsV A0⟩ : Row) ∈ rs) : SlotsAt w a N A0.sl := by
  subst hN
  exact slots_at hv (h.rows _ hm)
theorem hof_nil : hof [] = fun _ => 0 := by
  funext i
  unfold hof
  split <;> simp
theorem hof_le (l : List Nat) (j : Nat) : hof l j ≤ l.length := by
  unfold hof
  split
  · exact Nat.zero_le _
  · exact List.count_le_length
def in64 (x : Int) : Prop := -9223372036854775808 ≤ x ∧ x ≤ 9223372036854775807
def vld (x : Int) : Prop := 0 ≤ x ∧ x ≤ 65536
instance (x : Int) : Decidable (vld x) := by unfold vld; exact inferInstance
def needI (a b c more extra factor : Int) : Int := if vld a ∧ vld b ∧ vld c then extra + factor * (xhI (a + b + c + more) + 2) else -1
theorem xhI_in {n : Int} (h0 : 0 ≤ n) (h1 : n ≤ 1000000) : 0 ≤ xhI n ∧ xhI n < 80 := by
  unfold xhI
  rw [if_pos ⟨h0, by omega⟩]
  have := (xh_spec (n := n.toNat) (by omega)).2.1
  omega
set_option maxHeartbeats 1000000 in
set_option maxRecDepth 100000 in
theorem refNeed_any (a b c more extra factor : Int) (w : World) (hb : in64 a ∧ in64 b ∧ in64 c) (hm : 0 ≤ more ∧ more ≤ 1) (hx : vld a → vld b → vld c → 0 ≤ extra ∧ extra ≤ 1000000) (hf : 0 ≤ factor ∧ factor ≤ 12) :
    Calls Tryz.prog 57 #[.int .i64 a, .int .i64 b, .int .i64 c, .int .i64 more, .int .i64 extra, .int .i64 factor] w (Calm w (.int .i64 (needI a b c more extra factor))) := by
  obtain ⟨hba, hbb, hbc⟩ := hb
  have h7 : decide (a < 0) = true ∨ (decide (a < 0) = false ∧ decide (65536 < a) = true) ∨ (decide (a < 0) = false ∧ decide (65536 < a) = false ∧ decide (b < 0) = true) ∨ (decide (a < 0) = false ∧ decide (65536 < a) = false ∧ decide (b < 0) = false ∧ decide (65536 < b) = true) ∨
      (decide (a < 0) = false ∧ decide (65536 < a) = false ∧ decide (b < 0) = false ∧ decide (65536 < b) = false ∧ decide (c < 0) = true) ∨ (decide (a < 0) = false ∧ decide (65536 < a) = false ∧ decide (b < 0) = false ∧ decide (65536 < b) = false ∧ decide (c < 0) = false ∧ decide (65536 < c) = true) ∨
      (decide (a < 0) = false ∧ decide (65536 < a) = false ∧ decide (b < 0) = false ∧ decide (65536 < b) = false ∧ decide (c < 0) = false ∧ decide (65536 < c) = false) := by
    simp only [decide_eq_true_eq, decide_eq_false_iff_not]
    omega
  have HB : Hid ((decide (a < 0) = true ∨ decide (65536 < a) = true ∨ decide (b < 0) = true ∨ decide (65536 < b) = true ∨ decide (c < 0) = true ∨ decide (65536 < c) = true) → needI a b c more extra factor = -1) := fun h => by
    unfold needI
    rw [if_neg]
    rintro ⟨⟨a1, a2⟩, ⟨b1, b2⟩, ⟨c1, c2⟩⟩
    simp only [decide_eq_true_eq] at h
    omega
  rcases h7 with h1 | ⟨h1, h2⟩ | ⟨h1, h2, h3⟩ | ⟨h1, h2, h3, h4⟩ | ⟨h1, h2, h3, h4, h5⟩ | ⟨h1, h2, h3, h4, h5, h6⟩ | ⟨h1, h2, h3, h4, h5, h6⟩
  · have HE : Hid (needI a b c more extra factor = -1) := HB.out (.inl h1)
    clear hba hbb hbc hm hx hf HB
    go_enter Tryz.func57, Tryz.ntmps57
    go_wp2_with fail
    go_ret
    exact ⟨by rw [HE.out]; rfl, Below.refl _ _⟩
  · have HE : Hid (needI a b c more extra factor = -1) := HB.out (.inr (.inl h2))
    clear hba hbb hbc hm hx hf HB
    go_enter Tryz.func57, Tryz.ntmps57
    go_wp2_with fail
    go_ret
    exact ⟨by rw [HE.out]; rfl, Below.refl _ _⟩
  · have HE : Hid (needI a b c more extra factor = -1) := HB.out (.inr (.inr (.inl h3)))
    clear hba hbb hbc hm hx hf HB
    go_enter Tryz.func57, Tryz.ntmps57
    go_wp2_with fail
    go_ret
    exact ⟨by rw [HE.out]; rfl, Below.refl _ _⟩
  · have HE : Hid (needI a b c more extra factor = -1) := HB.out (.inr (.inr (.inr (.inl h4))))
    clear hba hbb hbc hm hx hf HB
    go_enter Tryz.func57, Tryz.ntmps57
    go_wp2_with fail
    go_ret
    exact ⟨by rw [HE.out]; rfl, Below.refl _ _⟩
  · have HE : Hid (needI a b c more extra factor = -1) := HB.out (.inr (.inr (.inr (.inr (.inl h5)))))
    clear hba hbb hbc hm hx hf HB
    go_enter Tryz.func57, Tryz.ntmps57
    go_wp2_with fail
    go_ret
    exact ⟨by rw [HE.out]; rfl, Below.refl _ _⟩
  · have HE : Hid (needI a b c more extra factor = -1) := HB.out (.inr (.inr (.inr (.inr (.inr h6)))))
    clear hba hbb hbc hm hx hf HB
    go_enter Tryz.func57, Tryz.ntmps57
    go_wp2_with fail
    go_ret
    exact ⟨by rw [HE.out]; rfl, Below.refl _ _⟩
  · have hva : vld a := ⟨by have := of_decide_eq_false h1; omega, by have := of_decide_eq_false h2; omega⟩
    have hvb : vld b := ⟨by have := of_decide_eq_false h3; omega, by have := of_decide_eq_false h4; omega⟩
    have hvc : vld c := ⟨by have := of_decide_eq_false h5; omega, by have := of_decide_eq_false h6; omega⟩
    have HE : Hid (needI a b c more extra factor = extra + factor * (xhI (a + b + c + more) + 2)) := if_pos ⟨hva, hvb, hvc⟩
    have hxx := hx hva hvb hvc
    obtain ⟨a1, a2⟩ := hva
    obtain ⟨b1, b2⟩ := hvb
    obtain ⟨c1, c2⟩ := hvc
    have w1 : IntKind.i64.wrap (a + b) = a + b := by rw [IntKind.wrap_i64]; omega
    have w2 : IntKind.i64.wrap (a + b + c) = a + b + c := by rw [IntKind.wrap_i64]; omega
    have w3 : IntKind.i64.wrap (a + b + c + more) = a + b + c + more := by rw [IntKind.wrap_i64]; omega
    have HR : Hid (in64 (a + b + c + more)) := ⟨by omega, by omega⟩
    have hX := xhI_in (n := a + b + c + more) (by omega) (by omega)
    have HXR := Lib.hid hX
    have HFX : Hid (0 ≤ factor ∧ factor ≤ 12 ∧ 0 ≤ extra ∧ extra ≤ 1000000) := ⟨hf.1, hf.2, hxx.1, hxx.2⟩
    clear hba hbb hbc hm hx hf HB hxx hX a1 a2 b1 b2 c1 c2
    go_enter Tryz.func57, Tryz.ntmps57
    go_wp2_with fail
    refine (refMaxHeight_any (a + b + c + more) w HR.out.1 HR.out.2).mono ?_
    rintro e w5 ⟨rfl, hb5⟩
    have HB5 := Lib.hid hb5
    generalize xhI (a + b + c + more) = X at HE HXR ⊢
    have w4 : IntKind.i64.wrap (X + 2) = X + 2 := by rw [IntKind.wrap_i64]; have := HXR.out; omega
    have w5' : IntKind.i64.wrap (factor * (X + 2)) = factor * (X + 2) := by
      have h1 := HXR.out
      have h2 := HFX.out
      have h3 : 0 ≤ factor * (X + 2) := Int.mul_nonneg h2.1 (by omega)
      have h4 : factor * (X + 2) ≤ 12 * 82 := Int.mul_le_mul h2.2.1 (by omega) (by omega) (by decide)
      rw [IntKind.wrap_i64]; omega
    have w6' : IntKind.i64.wrap (extra + factor * (X + 2)) = extra + factor * (X + 2) := by
      have h1 := HXR.out
      have h2 := HFX.out
      have h3 : 0 ≤ factor * (X + 2) := Int.mul_nonneg h2.1 (by omega)
      have h4 : factor * (X + 2) ≤ 12 * 82 := Int.mul_le_mul h2.2.1 (by omega) (by omega) (by decide)
      rw [IntKind.wrap_i64]; omega
    clear hb5
    go_wp2_with fail
    go_ret
    exact ⟨by rw [HE.out]; rfl, HB5.out⟩
def insI (n : Int) : Int := needI n 0 0 1 0 4
def delI (n : Int) : Int := needI n 0 0 0 0 4
def joinI (l r : Int) : Int := needI l r 0 1 0 4
def splitI (n : Int) : Int := needI n 0 0 0 0 12
def setI (l r : Int) : Int := needI l r 0 0 (l + r) 12
theorem in0 : in64 0 := ⟨by decide, by decide⟩
theorem refInsert_any (n : Int) (w : World) (hn : in64 n) : Calls Tryz.prog 35 #[.int .i64 n] w (Calm w (.int .i64 (insI n))) := by
  have HC := Lib.hid (refNeed_any n 0 0 1 0 4 w ⟨hn, in0, in0⟩ ⟨by decide, by decide⟩ (fun _ _ _ => ⟨by decide, by decide⟩) ⟨by decide, by decide⟩)
  clear hn
  go_enter Tryz.func35, Tryz.ntmps35
  go_wp2_with fail
  refine HC.out.mono ?_
  rintro e w1 ⟨rfl, hb1⟩
  have HB := Lib.hid hb1
  clear hb1
  go_wp2_with fail
  go_ret
  exact ⟨rfl, HB.out⟩
theorem refSetOperation_any (l r : Int) (w : World) (hl : in64 l) (hr : in64 r) : Calls Tryz.prog 19 #[.int .i64 l, .int .i64 r] w (Calm w (.int .i64 (setI l r))) := by
  have HC := Lib.hid (refNeed_any l r 0 0 0 0 w ⟨hl, hr, in0⟩ ⟨by decide, by decide⟩ (fun _ _ _ => ⟨by decide, by decide⟩) ⟨by decide, by decide⟩)
  have HC2 := Lib.hid (fun wx => refNeed_any l r 0 0 (l + r) 12 wx ⟨hl, hr, in0⟩ ⟨by decide, by decide⟩ (fun h1 h2 h3 => by unfold vld at h1 h2 h3; omega) ⟨by decide, by decide⟩)
  by_cases hv : vld l ∧ vld r ∧ vld 0
  · have h0 : needI l r 0 0 0 0 = 0 := by unfold needI; rw [if_pos hv]; omega
    have HZ := Lib.hid h0
    have hw1 : IntKind.i64.wrap (l + r) = l + r := by unfold vld at hv; rw [IntKind.wrap_i64]; omega
    clear hv h0 hl hr
    go_enter Tryz.func19, Tryz.ntmps19
    go_wp2_with fail
    refine HC.out.mono ?_
    rintro e w1 ⟨rfl, hb1⟩
    rw [HZ.out]
    have HB := Lib.hid hb1
    clear hb1
    go_wp2_with fail
    refine (HC2.out w1).mono ?_
    rintro e w2 ⟨rfl, hb2⟩
    have HB2 : Hid (Below w.heap.size w w2) := HB.out.trans (hb2.mono HB.out.size)
    clear hb2
    go_wp2_with fail
    go_ret
    exact ⟨rfl, HB2.out⟩
  · have h0 : needI l r 0 0 0 0 = -1 := by unfold needI; rw [if_neg hv]
    have h1 : setI l r = -1 := by unfold setI needI; rw [if_neg hv]
    have HZ := Lib.hid h0
    have HE := Lib.hid h1
    clear hv h0 h1 HC2 hl hr
    go_enter Tryz.func19, Tryz.ntmps19
    go_wp2_with fail
    refine HC.out.mono ?_
    rintro e w1 ⟨rfl, hb1⟩
    rw [HZ.out]
    have HB := Lib.hid hb1
    clear hb1
    go_wp2_with fail
    go_ret
    exact ⟨by rw [HE.out]; rfl, HB.out⟩
/-- j is the tree t with the entries l in B; what A had stays; one reference more, to j -/
structure Got (A : Ar) (held : Nat → Nat) (B : Ar) (j : Nat) (t : Tr) (l : List En) : Prop where
  kept : A.Kept B
  gen : ∀ i, A.σ.on i = true → B.σ.gen i = A.σ.gen i
  inv : B.Inv [] (pls held j)
  agg : B.Agg
  sub : Sub B j t
  ents : t.ents B.nd = l
  bal : t.bal = true
theorem Got.tree {A B : Ar} {held : Nat → Nat} {j : Nat} {t : Tr} {l : List En} (h : Got A held B j t l) (hu : Up l) : TreeAt B j t l := ⟨⟨_, h.inv⟩, h.agg, h.sub, h.bal, h.ents, hu⟩
theorem Got.idx {A B : Ar} {held : Nat → Nat} {j : Nat} {t : Tr} {l : List En} (h : Got A held B j t l) : j < 4294967296 := by
  rcases h.sub.idx with h1 | h1
  · omega
  · have := h.inv.ok.on j h1; have := h.inv.ok.cap2; omega
theorem TreeAt.kept {A B : Ar} {held : Nat → Nat} {i : Nat} {t : Tr} {l : List En} (h : TreeAt A i t l) (hk : A.Kept B) (hB : B.Inv [] held) (hg : B.Agg) : TreeAt B i t l :=
  ⟨⟨_, hB⟩, hg, h.sub.kept hk, h.bal, (Tr.ents_kept hk h.sub).trans h.ents, h.up⟩
theorem hof_pls (l : List Nat) (i : Nat) : pls (hof l) i = hof (l ++ [i]) := by
  by_cases h : i = 0
  · subst h; rw [pls_zero, hof_zero]
  · unfold pls; rw [if_neg h, hof_more l h]
/-- two trees -/
structure Got2 (A : Ar) (held : Nat → Nat) (B : Ar) (j : Nat) (t : Tr) (l : List En) (k : Nat) (u : Tr) (m : List En) : Prop where
  kept : A.Kept B
  gen : ∀ i, A.σ.on i = true → B.σ.gen i = A.σ.gen i
  inv : B.Inv [] (pls (pls held j) k)
  agg : B.Agg
  sub : Sub B j t
  ents : t.ents B.nd = l
  bal : t.bal = true
  sub2 : Sub B k u
  ents2 : u.ents B.nd = m
  bal2 : u.bal = true
/-- numbers of 64 bits -/
def WfL (l : List En) : Prop := ∀ y ∈ l, i64R y.key ∧ i64R y.val
def AllLt (l : List En) (k : Int) : Prop := ∀ y ∈ l, y.key < k
def AllGt (l : List En) (k : Int) : Prop := ∀ y ∈ l, k < y.key
/-- how often Join and Concat may read -/
def joinBd (n m : Nat) : Int := 60 * ((xh (n + m + 1) : Int) + 2)
def splitBd (n : Nat) : Int := 120 * ((xh n : Int) + 2)
def JoinQ (A : Ar) (rd : Int) (held : Nat → Nat) (L R : Nat) (ll lr : List En) (e : En) (en : Ending) (B : Ar) (rd' : Int) : Prop :=
  rd ≤ rd' ∧ rd' ≤ rd + joinBd ll.length lr.length ∧ (
  (¬ (AllLt ll e.key ∧ AllGt lr e.key) ∧ en = .returned (.tuple #[.int .u32 0, .int .i64 7]) ∧ B = A) ∨
  ((AllLt ll e.key ∧ AllGt lr e.key) ∧ (A.σ.free.length : Int) < joinI (ll.length : Int) (lr.length : Int) ∧ en = .returned (.tuple #[.int .u32 0, .int .i64 2]) ∧ B = A) ∨
  ((AllLt ll e.key ∧ AllGt lr e.key) ∧ joinI (ll.length : Int) (lr.length : Int) ≤ (A.σ.free.length : Int) ∧ ∃ (j : Nat) (t : Tr), en = .returned (.tuple #[.int .u32 (j : Int), .int .i64 0]) ∧ Got A held B j t (ll ++ e :: lr) ∧
    (Proofs.YtfihklpofmcfgaaGreat.bal (ll.length : Int) (lr.length : Int) = true → (B.nd j).left = L ∧ (B.nd j).right = R ∧ B.σ.free.length + 1 = A.σ.free.length)))
def CatQ (A : Ar) (rd : Int) (held : Nat → Nat) (L R : Nat) (ll lr : List En) (en : Ending) (B : Ar) (rd' : Int) : Prop :=
  rd ≤ rd' ∧ rd' ≤ rd + joinBd ll.length lr.length ∧ (
  ((ll = [] ∨ lr = []) ∧ ∃ t : Tr, en = .returned (.tuple #[.int .u32 ((L + R : Nat) : Int), .int .i64 0]) ∧ Got A held B (L + R) t (ll ++ lr) ∧ B.σ.free.length = A.σ.free.length) ∨
  ((ll ≠ [] ∧ lr ≠ []) ∧ ¬ Up (ll ++ lr) ∧ en = .returned (.tuple #[.int .u32 0, .int .i64 7]) ∧ B = A) ∨
  ((ll ≠ [] ∧ lr ≠ []) ∧ Up (ll ++ lr) ∧ (A.σ.free.length : Int) < joinI (ll.length : Int) (lr.length : Int) ∧ en = .returned (.tuple #[.int .u32 0, .int .i64 2]) ∧ B = A) ∨
  ((ll ≠ [] ∧ lr ≠ []) ∧ Up (ll ++ lr) ∧ joinI (ll.length : Int) (lr.length : Int) ≤ (A.σ.free.length : Int) ∧ ∃ (j : Nat) (t : Tr), en = .returned (.tuple #[.int .u32 (j : Int), .int .i64 0]) ∧ Got A held B j t (ll ++ lr)))
def lowE (l : List En) (k : Int) : List En := l.filter fun y => decide (y.key < k)
def highE (l : List En) (k : Int) : List En := l.filter fun y => decide (k < y.key)
/-- the tree needs no change -/
def wholeE (l : List En) (k : Int) : Prop := getE l k = none ∧ (lowE l k = [] ∨ highE l k = [])
def SplitQ (A : Ar) (rd : Int) (held : Nat → Nat) (i : Nat) (l : List En) (k : Int) (en : Ending) (B : Ar) (rd' : Int) : Prop :=
  rd ≤ rd' ∧ rd' ≤ rd + splitBd l.length ∧ (
  (wholeE l k ∧ ∃ (x y : Nat) (tx ty : Tr), en = .returned (.tuple #[.int .u32 (x : Int), .int .i64 0, .bool false, .int .u32 (y : Int), .int .i64 0]) ∧ Got2 A held B x tx (lowE l k) y ty (highE l k) ∧ (lowE l k ≠ [] → x = i) ∧ (highE l k ≠ [] → y = i) ∧ B.σ.free.length = A.σ.free.length) ∨
  (¬ wholeE l k ∧ (A.σ.free.length : Int) < splitI (l.length : Int) ∧ en = .returned (.tuple #[.int .u32 0, .int .i64 0, .bool false, .int .u32 0, .int .i64 2]) ∧ B = A) ∨
  (¬ wholeE l k ∧ splitI (l.length : Int) ≤ (A.σ.free.length : Int) ∧ ∃ (x y : Nat) (tx ty : Tr), en = .returned (.tuple #[.int .u32 (x : Int), .int .i64 ((getE l k).elim 0 (·.val)), .bool (getE l k).isSome, .int .u32 (y : Int), .int .i64 0]) ∧ Got2 A held B x tx (lowE l k) y ty (highE l k)))
def ListSpec (A : Ar) (i : Nat) (t : Tr) : Prop := ∀ (w : World) (a b : Option Addr) (N c m d : Nat), A.σ.cap = N → SlotsAt w a N A.sl → t.size ≤ 1000000 →
  Calls Tryz.prog 86 #[.agg #[.slice a N c, .slice b m d], .int .u32 (i : Int)] w (MadeEns w (t.ents A.nd))
set_option maxHeartbeats 4000000 in
set_option maxRecDepth 100000 in
theorem listT_node {A : Ar} {i : Nat} {l r : Tr} (hok : A.σ.Ok) (h0 : i ≠ 0) (h1 : A.σ.on i = true) (ihl : ListSpec A (A.nd i).left l) (ihr : ListSpec A (A.nd i).right r) : ListSpec A i (.node i l r) := by
  intro w a b N c m d hN hS hsz
  have hi := hok.on i h1
  have hcap := hok.cap2
  have hi32 : i < 4294967296 := by omega
  have hne0 : ((i : Int) == 0) = false := by simp; omega
  have HI := Lib.hid hi32
  have HOK := Lib.hid hok
  have HON := Lib.hid h1
  have HN := Lib.hid hN
  have hsz2 : (Tr.node i l r).size = l.size + r.size + 1 := rfl
  have HSZ : Hid (l.size ≤ 1000000 ∧ r.size ≤ 1000000) := ⟨by omega, by omega⟩
  have hb1 := below_newL w (Obj.cells #[.slice a N c, .slice b m d] 33)
  have hx1 := heap_alloc_new w (Obj.cells #[.slice a N c, .slice b m d] 33)
  have hS1 := hS.below hb1
  have hg1 : w.heap.size < (w.alloc (Obj.cells #[.slice a N c, .slice b m d] 33)).heap.size := by simp
  have HL := Lib.hid ihl
  have HR := Lib.hid ihr
  clear hN hS hsz hsz2 ihl ihr hok h1 hi hcap hi32
  go_enter Tryz.func86, Tryz.ntmps86
  go_upto_region 1 with fail
  generalize w.alloc (Obj.cells #[.slice a N c, .slice b m d] 33) = w1 at hb1 hx1 hS1 hg1 ⊢
  generalize w.heap.size = g at hx1 hg1 ⊢
  have HB1 := Lib.hid hb1
  have HX1 := Lib.hid hx1
  have HS1 := Lib.hid hS1
  have HG1 := Lib.hid hg1
  obtain ⟨q0, q1⟩ := two_cells hx1
  clear hb1 hx1 hS1 hg1
  go_wp2_with fail
  refine (refNode_any (b := b) (m := m) (d := d) (c := c) HS1.out HOK.out HN.out HI.out).mono ?_
  rintro e w2 ⟨rfl, hb2⟩
  have hnz : A.nz i = A.nd i := by unfold Ar.nz; rw [HON.out]; rfl
  rw [hnz]
  have HB2 : Hid (Below w1.heap.size w1 w2) := hb2
  clear hnz q0 q1 hb2
  unfold ndRow
  have hb4 := below_newL w2 (Obj.cells (ndRow (A.nd i)) 81)
  have hn4 := heap_alloc_new w2 (Obj.cells (ndRow (A.nd i)) 81)
  have hg4 : w2.heap.size < (w2.alloc (Obj.cells (ndRow (A.nd i)) 81)).heap.size := by simp
  go_upto_region 4 with fail
  rw [show #[Value.int .i64 (A.nd i).key, .int .i64 (A.nd i).val, .int .u32 ((A.nd i).left : Int), .int .u32 ((A.nd i).right : Int), .int .i64 (A.nd i).size, .int .i64 (A.nd i).sum, .int .i64 (A.nd i).mn, .int .i64 (A.nd i).mx] = ndRow (A.nd i) from rfl]
  have HB4 : Hid (Below w1.heap.size w1 (w2.alloc (Obj.cells (ndRow (A.nd i)) 81))) := HB2.out.trans (hb4.mono HB2.out.size)
  generalize w2.alloc (Obj.cells (ndRow (A.nd i)) 81) = w4 at hn4 hg4 HB4 ⊢
  generalize w2.heap.size = gn at hn4 hg4 ⊢
  have HN4 := Lib.hid hn4
  have HG4 := Lib.hid hg4
  clear hb4 hn4 hg4 HB2
  obtain ⟨kx, hkx⟩ : ∃ x, (A.nd i).key = x := ⟨_, rfl⟩
  obtain ⟨vx, hvx⟩ : ∃ x, (A.nd i).val = x := ⟨_, rfl⟩
  obtain ⟨lx, hlx⟩ : ∃ x, (A.nd i).left = x := ⟨_, rfl⟩
  obtain ⟨rx, hrx⟩ : ∃ x, (A.nd i).right = x := ⟨_, rfl⟩
  have HENT : Hid ((Tr.node i l r).ents A.nd = l.ents A.nd ++ ⟨kx, vx⟩ :: r.ents A.nd) := by show _ = _; rw [Tr.ents_node, hkx, hvx]
  have HC : Hid (∀ wx, Below w4.heap.size w4 wx → (wx.cell? ⟨g, 0, none⟩ = some (.slice a N c) ∧ wx.cell? ⟨g, 1, none⟩ = some (.slice b m d)) ∧ (wx.cell? ⟨gn, 0, none⟩ = some (.int .i64 kx) ∧ wx.cell? ⟨gn, 1, none⟩ = some (.int .i64 vx) ∧ wx.cell? ⟨gn, 2, none⟩ = some (.int .u32 (lx : Int)) ∧ wx.cell? ⟨gn, 3, none⟩ = some (.int .u32 (rx : Int))) ∧ SlotsAt wx a N A.sl ∧ Below w.heap.size w wx) := fun wx hb => by
    have hb' : Below w1.heap.size w1 wx := HB4.out.trans (hb.mono HB4.out.size)
    have hq := (hb'.block g HG1.out).trans HX1.out
    have hn := (hb.block gn HG4.out).trans HN4.out
    subst hkx hvx hlx hrx
    exact ⟨two_cells hq, ⟨by rw [cell_of_row _ _ _ _ _ _ hn]; rfl, by rw [cell_of_row _ _ _ _ _ _ hn]; rfl, by rw [cell_of_row _ _ _ _ _ _ hn]; rfl, by rw [cell_of_row _ _ _ _ _ _ hn]; rfl⟩, HS1.out.below hb', HB1.out.trans (hb'.mono HB1.out.size)⟩
  rw [hlx] at HL
  rw [hrx] at HR
  have HLE : Hid ((l.ents A.nd).length ≤ 1000000 ∧ (r.ents A.nd).length ≤ 1000000) := ⟨by rw [Tr.ents_len]; exact HSZ.out.1, by rw [Tr.ents_len]; exact HSZ.out.2⟩
  clear hkx hvx hlx hrx
  obtain ⟨L1, hL1⟩ : ∃ L, l.ents A.nd = L := ⟨_, rfl⟩
  obtain ⟨L2, hL2⟩ : ∃ L, r.ents A.nd = L := ⟨_, rfl⟩
  rw [hL1, hL2] at HENT HLE
  have HL1 := Lib.hid hL1
  have HL2 := Lib.hid hL2
  clear hL1 hL2
  go_cut [6] (fun s6 wx => ∃ v, s6 = v ∧ ESt w4.heap.size w4 (L1 ++ [⟨kx, vx⟩]) v wx)
  case first =>
    have hS0 : Below w4.heap.size w4 w4.drew := (Below.refl _ _).drew
    obtain ⟨⟨q0, q1⟩, ⟨n0, n1, n2, n3⟩, -, -⟩ := HC.out _ hS0
    have HCALL : Hid (∀ wx, Below w4.heap.size w4 wx → Calls Tryz.prog 86 #[.agg #[.slice a N c, .slice b m d], .int .u32 (lx : Int)] wx (fun e wL => ∃ xa xc, e = .returned (.slice xa L1.length xc) ∧ ESt w4.heap.size w4 L1 (.slice xa L1.length xc) wL ∧ Below wx.heap.size wx wL)) := fun wx hww => by
      refine (HL.out _ a b N c m d HN.out (HC.out _ hww).2.2.1 HSZ.out.1).mono ?_
      rintro e wL ⟨xa, xc, rfl, hrowL, hbL⟩
      rw [HL1.out] at hrowL ⊢
      exact ⟨xa, xc, rfl, ⟨⟨xa, xc, rfl⟩, row_mono hrowL hww.size, hww.trans (hbL.mono hww.size)⟩, hbL⟩
    have HKEEP : Hid (∀ w', Below w4.heap.size w4 w' → Below w4.heap.size w4 w' ∧ w'.cell? ⟨g, 0, none⟩ = some (.slice a N c) ∧ w'.cell? ⟨g, 1, none⟩ = some (.slice b m d) ∧ w'.cell? ⟨gn, 0, none⟩ = some (.int .i64 kx) ∧ w'.cell? ⟨gn, 1, none⟩ = some (.int .i64 vx) ∧ w'.cell? ⟨gn, 2, none⟩ = some (.int .u32 (lx : Int)) ∧ w'.cell? ⟨gn, 3, none⟩ = some (.int .u32 (rx : Int))) := fun w' hb => by
      have hz := HC.out w' hb
      exact ⟨hb, hz.1.1, hz.1.2, hz.2.1.1, hz.2.1.2.1, hz.2.1.2.2.1, hz.2.1.2.2.2⟩
    go_region_held3 (fun w' => Below w4.heap.size w4 w' ∧ w'.cell? ⟨g, 0, none⟩ = some (.slice a N c) ∧ w'.cell? ⟨g, 1, none⟩ = some (.slice b m d) ∧ w'.cell? ⟨gn, 0, none⟩ = some (.int .i64 kx) ∧ w'.cell? ⟨gn, 1, none⟩ = some (.int .i64 vx) ∧ w'.cell? ⟨gn, 2, none⟩ = some (.int .u32 (lx : Int)) ∧ w'.cell? ⟨gn, 3, none⟩ = some (.int .u32 (rx : Int))) ((refine HKEEP.out _ ?_; repeat (first | with_reducible assumption | with_reducible exact Below.refl _ _ | with_reducible refine Below.drew ?_ | with_reducible refine below_alT ?_ _))) (first
      | (go_at_call 86; refine (HCALL.out _ (by repeat (first | with_reducible assumption | with_reducible exact Below.refl _ _ | with_reducible refine Below.drew ?_ | with_reducible refine below_alT ?_ _))).mono ?_; rintro e wL ⟨xa, xc, rfl, hEL, hbL⟩; have hSL := hEL.below; obtain ⟨⟨q0, q1⟩, ⟨n0, n1, n2, n3⟩, -, -⟩ := HC.out _ hSL)
      | (refine step_append_en rfl (.tmp 15) (.tmp 21) rfl (hEL.from (below_newL _ _) rfl) rfl rfl ⟨kx, vx⟩ _ rfl (cell_newE _ _ _) (Nat.le_trans HLE.out.1 (by decide)) ?_; intro v5 w5 hc5 hg5; have hS5 := hc5.below; obtain ⟨⟨q0, q1⟩, ⟨n0, n1, n2, n3⟩, -, -⟩ := HC.out _ hS5)
      | (refine step_append_en rfl (.tmp 15) (.tmp 21) rfl hEL rfl rfl ⟨kx, vx⟩ _ rfl (fun j u hu => (hbL.cell (by simp [Addr.add]; split <;> exact Nat.lt_succ_self _)).trans (cell_newE _ ⟨kx, vx⟩ _ j u hu)) (Nat.le_trans HLE.out.1 (by decide)) ?_; intro v5 w5 hc5 hg5; have hS5 := hc5.below; obtain ⟨⟨q0, q1⟩, ⟨n0, n1, n2, n3⟩, -, -⟩ := HC.out _ hS5))
    all_goals (go_wp2_with fail; go_meet; exact ⟨_, rfl, hc5⟩)
  case' rest =>
    rename World => w5
    obtain ⟨v5, h6, hc5⟩ := hcut
    subst h6
    obtain ⟨xa, xc, hv5⟩ := hc5.val
    have HE5 := Lib.hid hc5
    obtain ⟨⟨q0, q1⟩, ⟨n0, n1, n2, n3⟩, hsl5, -⟩ := HC.out w5 hc5.below
    have HSL5 := Lib.hid hsl5
    have HLB : Hid ((L1 ++ [(⟨kx, vx⟩ : En)]).length + L2.length ≤ 100000000) := by
      have h := HLE.out
      show _ ≤ _
      rw [List.length_append]
      simp only [List.length_cons, List.length_nil]
      omega
    obtain ⟨n1', hn1⟩ : ∃ k, (L1 ++ [(⟨kx, vx⟩ : En)]).length = k := ⟨_, rfl⟩
    obtain ⟨n2', hn2⟩ : ∃ k, L2.length = k := ⟨_, rfl⟩
    rw [hn1] at hv5
    have HN2 := Lib.hid hn2
    rw [hv5] at HE5
    subst hv5
    clear hc5 hsl5 hn1 hn2
    go_wp2_with fail
    refine (HR.out w5 a b N c m d HN.out HSL5.out HSZ.out.2).mono ?_
    rintro e w6 ⟨ya, yc, rfl, hrow6, hb6⟩
    rw [HL2.out, HN2.out] at hrow6 ⊢
    have HE6 := Lib.hid (HE5.out.from hb6 rfl)
    have HRW6 := Lib.hid hrow6
    clear hrow6 hb6 q0 q1 n0 n1 n2 n3
    go_wp2_with (at_builtin; refine wpList_append_rowE rfl (.tmp 23) (.tmp 27) rfl HE6.out rfl rfl ya yc n2' HN2.out rfl HRW6.out (by have := HLB.out; have := HN2.out; omega) ?_; intro v7 w7 hc7)
    go_ret
    obtain ⟨za, zc, rfl⟩ := hc7.val
    have hfin : L1 ++ [(⟨kx, vx⟩ : En)] ++ L2 = (Tr.node i l r).ents A.nd := by rw [HENT.out]; simp
    have hbw := (HC.out w7 hc7.below).2.2.2
    rw [← hfin]
    exact ⟨za, zc, rfl, row_mono hc7.row ((HC.out w4 (Below.refl _ _)).2.2.2).size, hbw⟩
set_option maxHeartbeats 4000000 in
set_option maxRecDepth 100000 in
theorem listT_nil (A : Ar) : ListSpec A 0 .nil := by
  intro w a b N c m d hN hS hsz
  have hb1 := below_newL w (Obj.cells #[.slice a N c, .slice b m d] 33)
  have HB1 := Lib.hid hb1
  clear hb1
  go_enter Tryz.func86, Tryz.ntmps86
  go_wp2_with fail
  go_ret
  exact ⟨none, 0, rfl, World.ownsRow_nil _ _ _ _, HB1.out⟩
/-- List of the reference reads a subtree in order. -/
theorem listT_any {A : Ar} {i : Nat} {t : Tr} (hok : A.σ.Ok) (hs : Sub A i t) : ListSpec A i t := by
  induction hs with
  | nil => exact listT_nil A
  | node i l r h0 h1 _ _ ihl ihr => exact listT_node hok h0 h1 ihl ihr
structure But (q : Nat) (w w' : World) : Prop where
  os : w'.os = w.os
  tape : w'.tape = w.tape
  output : w'.output = w.output
  size : w.heap.size ≤ w'.heap.size
  block : ∀ k, k < w.heap.size → k ≠ q → w'.heap[k]? = w.heap[k]?
section
variable {q : Nat} {w w' w0 : World}
theorem But.refl (q : Nat) (w : World) : But q w w := ⟨rfl, rfl, rfl, Nat.le_refl _, fun _ _ _ => rfl⟩
theorem But.trans {w1 : World} (h : But q w w1) (h' : But q w1 w') : But q w w' :=
  ⟨h'.os.trans h.os, h'.tape.trans h.tape, h'.output.trans h.output, Nat.le_trans h.size h'.size, fun k hk hne => (h'.block k (Nat.lt_of_lt_of_le hk h.size) hne).trans (h.block k hk hne)⟩
theorem But.of_below (h : Below w.heap.size w w') : But q w w' := ⟨h.os, h.tape, h.output, h.size, fun k hk _ => h.block k hk⟩
theorem But.belowB {B : Nat} (h : But q w w') (hq : B ≤ q) (hB : B ≤ w.heap.size) : Below B w w' := ⟨h.os, h.tape, h.output, h.size, fun k hk => h.block k (by omega) (by omega)⟩
theorem But.set (w : World) (o : Nat) (v : Value) : But q w (w.setCell ⟨q, o, none⟩ v) := by
  have hb : Below q w (w.setCell ⟨q, o, none⟩ v) := (Below.refl q w).setCell (Nat.le_refl _) _
  exact ⟨hb.os, hb.tape, hb.output, hb.size, fun k hk hne => heap_setCell_other _ _ _ _ hne⟩
theorem But.row (h : But q w w') {k : Nat} {o : Obj} (hk : w.heap[k]? = some o) (hne : k ≠ q) : w'.heap[k]? = some o := (h.block k (Array.getElem?_eq_some_iff.1 hk).1 hne).trans hk
theorem SlotsAt.but {a : Option Addr} {n : Nat} {S : Nat → Sl} (h : SlotsAt w a n S) (hb : But q w w') (hq : ∀ b off, a = some ⟨b, off, none⟩ → b ≠ q) : SlotsAt w' a n S := by
  refine ⟨fun i hi => ?_, h.kid⟩
  obtain ⟨b, off, ha, hlt, hc⟩ := h.cell i hi
  refine ⟨b, off, ha, Nat.lt_of_lt_of_le hlt hb.size, fun j v hv => ?_⟩
  rw [← hc j v hv]
  exact World.cell?_of_block (w := w) (a := ⟨b, off + i * 11 + j, none⟩) (hb.block b hlt (hq b off ha))
end
/-- the traversal's variable -/
structure WBox (w : World) (q : Nat) (a b : Option Addr) (N c m d : Nat) (s : Option Int) (mo : Int) : Prop where
  box : w.heap[q]? = some (.cells #[.slice a N c, .slice b m d, .int .i64 (s.getD 0), .bool s.isSome, .int .i64 mo] 153 (0, 0))
theorem WBox.cells {w : World} {q : Nat} {a b : Option Addr} {N c m d : Nat} {s : Option Int} {mo : Int} (h : WBox w q a b N c m d s mo) :
    w.cell? ⟨q, 0, none⟩ = some (.slice a N c) ∧ w.cell? ⟨q, 1, none⟩ = some (.slice b m d) ∧ w.cell? ⟨q, 2, none⟩ = some (.int .i64 (s.getD 0)) ∧ w.cell? ⟨q, 3, none⟩ = some (.bool s.isSome) ∧ w.cell? ⟨q, 4, none⟩ = some (.int .i64 mo) := by
  refine ⟨?_, ?_, ?_, ?_, ?_⟩ <;> (rw [cell_of_row _ _ _ _ _ _ h.box]; rfl)
theorem WBox.frozen {w : World} {q : Nat} {a b : Option Addr} {N c m d : Nat} {s : Option Int} {mo : Int} (h : WBox w q a b N c m d s mo) (j : Nat) : w.frozen? ⟨q, j, none⟩ = false := frozen_of_row _ _ _ _ _ h.box
theorem WBox.lt {w : World} {q : Nat} {a b : Option Addr} {N c m d : Nat} {s : Option Int} {mo : Int} (h : WBox w q a b N c m d s mo) : q < w.heap.size := (Array.getElem?_eq_some_iff.1 h.box).1
theorem WBox.below {w w' : World} {q : Nat} {a b : Option Addr} {N c m d : Nat} {s : Option Int} {mo : Int} (h : WBox w q a b N c m d s mo) (hb : Below w.heap.size w w') : WBox w' q a b N c m d s mo := ⟨(hb.block q h.lt).trans h.box⟩
theorem WBox.most {w : World} {q : Nat} {a b : Option Addr} {N c m d : Nat} {s : Option Int} {mo : Int} (h : WBox w q a b N c m d s mo) (x : Int) : WBox (w.setCell ⟨q, 4, none⟩ (.int .i64 x)) q a b N c m d s x := ⟨by rw [heap_setCell_same _ _ _ _ _ _ h.box]; rfl⟩
theorem WBox.next {w : World} {q : Nat} {a b : Option Addr} {N c m d : Nat} {s : Option Int} {mo : Int} (h : WBox w q a b N c m d s mo) (x : Int) : WBox ((w.setCell ⟨q, 2, none⟩ (.int .i64 x)).setCell ⟨q, 3, none⟩ (.bool true)) q a b N c m d (some x) mo := ⟨by
  have h1 : (w.setCell ⟨q, 2, none⟩ (.int .i64 x)).heap[q]? = some (.cells #[.slice a N c, .slice b m d, .int .i64 x, .bool s.isSome, .int .i64 mo] 153 (0, 0)) := by rw [heap_setCell_same _ _ _ _ _ _ h.box]; rfl
  rw [heap_setCell_same _ _ _ _ _ _ h1]; rfl⟩
structure OrdRes (A : Ar) (a b : Option Addr) (N c m d q : Nat) (t : Tr) (s : Option Int) (mo : Int) (w : World) (e : Ending) (w' : World) : Prop where
  but : But q w w'
  res : (∃ s' mo', e = .returned (.bool true) ∧ ordT A.nd t s = some s' ∧ WBox w' q a b N c m d s' mo' ∧ mo - (A.above s : Int) ≤ mo' - (A.above s' : Int) ∧ mo' ≤ mo) ∨ (e = .returned (.bool false) ∧ ordT A.nd t s = none)
def OrdSpec (A : Ar) (a b : Option Addr) (N c m d q : Nat) (i : Nat) (t : Tr) : Prop :=
  ∀ (s : Option Int) (mo : Int) (w : World), WBox w q a b N c m d s mo → SlotsAt w a N A.sl → (A.above s : Int) + (t.ht : Int) ≤ mo → mo ≤ 1000000 →
    Calls Tryz.prog 106 #[.pointer (some ⟨q, 0, none⟩), .int .u32 (i : Int)] w (OrdRes A a b N c m d q t s mo w)
set_option maxHeartbeats 4000000 in
set_option maxRecDepth 100000 in
theorem ordered_node {A : Ar} {a b : Option Addr} {N c m d q i : Nat} {l r : Tr} (hok : A.σ.Ok) (hN : A.σ.cap = N) (hq : ∀ b off, a = some ⟨b, off, none⟩ → b ≠ q) (h0 : i ≠ 0) (h1 : A.σ.on i = true)
    (ihl : OrdSpec A a b N c m d q (A.nd i).left l) (ihr : OrdSpec A a b N c m d q (A.nd i).right r) : OrdSpec A a b N c m d q i (.node i l r) := by
  intro s mo w hw hS hmo hm1
  have hi := hok.on i h1
  have hcap := hok.cap2
  have hht : (((Tr.node i l r).ht : Nat) : Int) = 1 + ((max l.ht r.ht : Nat) : Int) := by
    have e : (Tr.node i l r).ht = 1 + max l.ht r.ht := rfl
    omega
  have HHT := Lib.hid hht
  have HMO := Lib.hid hmo
  have hne0 : ((i : Int) == 0) = false := by simp; omega
  have hmo1 : (1 : Int) ≤ mo := by omega
  have hmb : (mo == 0) = false := by simp; omega
  have hmw : IntKind.i64.wrap (mo - 1) = mo - 1 := by rw [IntKind.wrap_i64]; omega
  obtain ⟨hc0, hc1, hc2, hc3, hc4⟩ := hw.cells
  have hf4 := hw.frozen 4
  have hw1 := hw.most (mo - 1)
  have hb1 : But q w (w.setCell ⟨q, 4, none⟩ (.int .i64 (mo - 1))) := But.set w 4 _
  have hS1 := hS.but hb1 hq
  have HOK := Lib.hid hok
  have HN := Lib.hid hN
  have HQ := Lib.hid hq
  have HW1 := Lib.hid hw1
  have HB1 := Lib.hid hb1
  have HS1 := Lib.hid hS1
  have HL := Lib.hid ihl
  have HR := Lib.hid ihr
  have HON := Lib.hid h1
  have hi32 : i < 4294967296 := by omega
  have HI := Lib.hid hi32
  have HM1 := Lib.hid hm1
  have hin : (Tryz.prog.info? 81).map (·.size) = some 8 := by kernel_rfl
  have HIN := Lib.hid hin
  have hz : ∀ w, (zeroValue 81).run Tryz.prog w = .ok (.agg (ndRow Nd.zero)) w := by
    have h : (Tryz.prog.info? 81).map (·.zero) = some (some (.agg (ndRow Nd.zero))) := by kernel_rfl
    intro w
    cases hi : Tryz.prog.info? 81 with
    | none => simp [hi] at h
    | some i =>
      have hz : i.zero = some (.agg (ndRow Nd.zero)) := by simpa [hi] using h
      simp [zeroValue, typeInfo, hi, hz]
  clear hw hS ihl ihr hok hN hq hw1 hb1 hS1 h1 hht hmo hi hcap hi32 hin hm1
  go_enter Tryz.func106, Tryz.ntmps106
  go_upto_region 6 with fail
  generalize w.setCell ⟨q, 4, none⟩ (.int .i64 (mo - 1)) = w1 at HW1 HB1 HS1 ⊢
  clear hc0 hc1 hc2 hc3 hc4 hf4
  obtain ⟨hc0, hc1, _⟩ := HW1.out.cells
  go_wp2_with fail
  refine (refNode_any (b := b) (m := m) (d := d) (c := c) HS1.out HOK.out HN.out HI.out).mono ?_
  rintro e w2 ⟨rfl, hb2⟩
  have hnz : A.nz i = A.nd i := by unfold Ar.nz; rw [HON.out]; rfl
  rw [hnz]
  clear hnz hc0 hc1
  have HW2 : Hid (WBox w2 q a b N c m d s (mo - 1)) := HW1.out.below hb2
  have HB2 : Hid (But q w w2) := HB1.out.trans (.of_below hb2)
  have HS2 : Hid (SlotsAt w2 a N A.sl) := HS1.out.below hb2
  have hqp : q < w2.heap.size := HW2.out.lt
  have hrz := heap_alloc_new w2 (Obj.cells (ndRow Nd.zero) 81)
  have HRZ := Lib.hid hrz
  have hba : Below w2.heap.size w2 ((w2.alloc (Obj.cells (ndRow Nd.zero) 81)).setRow w2.heap.size (ndRow (A.nd i))) := below_setRow ((Below.refl _ _).alloc (Nat.le_refl _) _) (Nat.le_refl _) _
  have HW3 : Hid (WBox ((w2.alloc (Obj.cells (ndRow Nd.zero) 81)).setRow w2.heap.size (ndRow (A.nd i))) q a b N c m d s (mo - 1)) := HW2.out.below hba
  have HB3 : Hid (But q w ((w2.alloc (Obj.cells (ndRow Nd.zero) 81)).setRow w2.heap.size (ndRow (A.nd i)))) := HB2.out.trans (.of_below hba)
  have HS3 : Hid (SlotsAt ((w2.alloc (Obj.cells (ndRow Nd.zero) 81)).setRow w2.heap.size (ndRow (A.nd i))) a N A.sl) := HS2.out.below hba
  have HP3 : Hid (((w2.alloc (Obj.cells (ndRow Nd.zero) 81)).setRow w2.heap.size (ndRow (A.nd i))).heap[w2.heap.size]? = some (.cells (ndRow (A.nd i)) 81 (0, 0))) := setRow_heap _ _ _ _ _ _ hrz
  have HQP : Hid (w2.heap.size ≠ q) := by (show w2.heap.size ≠ q; omega)
  have hk := HS2.out.kid (i - 1) (by have := HOK.out.on i HON.out; have := HN.out; omega)
  have ei : A.sl (i - 1) = ⟨A.σ.on i, A.cnt i, A.σ.gen i, A.nd i⟩ := by unfold Ar.sl; rw [show i - 1 + 1 = i by omega]
  rw [ei] at hk
  have HK : Hid ((A.nd i).left < 4294967296 ∧ (A.nd i).right < 4294967296) := hk
  clear hba hrz hqp HW1 HB1 HS1 HW2 HB2 HS2 hb2 hk ei
  go_upto_region 7 with (refine wpList_store_row rfl 81 (.tmp 5) (.tmp 25) rfl w2.heap.size (ndRow (A.nd i)) rfl rfl 81 _ HRZ.out HIN.out rfl (ndRow_one _) ?_)
  generalize (w2.alloc (Obj.cells (ndRow Nd.zero) 81)).setRow w2.heap.size (ndRow (A.nd i)) = w3 at HW3 HB3 HS3 HP3 ⊢
  generalize w2.heap.size = p at HP3 HQP ⊢
  clear HRZ hz HIN
  have hx0 : w3.cell? ⟨p, 0, none⟩ = some (.int .i64 (A.nd i).key) := by rw [cell_of_row _ _ _ _ _ _ HP3.out]; rfl
  have hx2 : w3.cell? ⟨p, 2, none⟩ = some (.int .u32 ((A.nd i).left : Int)) := by rw [cell_of_row _ _ _ _ _ _ HP3.out]; rfl
  go_wp2_with fail
  have hl0 : (A.above s : Int) + (l.ht : Int) ≤ mo - 1 := by have := HMO.out; have := HHT.out; have := Nat.le_max_left l.ht r.ht; omega
  refine (HL.out s (mo - 1) w3 HW3.out HS3.out hl0 (by have := HM1.out; omega)).mono ?_
  rintro e w4 ⟨hb4, hres⟩
  clear hx0 hx2 hl0
  have HB4 : Hid (But q w w4) := HB3.out.trans hb4
  have HP4 : Hid (w4.heap[p]? = some (.cells (ndRow (A.nd i)) 81 (0, 0))) := hb4.row HP3.out HQP.out
  have HS4 : Hid (SlotsAt w4 a N A.sl) := HS3.out.but hb4 HQ.out
  have HOT : Hid (ordT A.nd (.node i l r) s = match ordT A.nd l s with | none => none | some none => ordT A.nd r (some (A.nd i).key) | some (some k) => if (A.nd i).key ≤ k then none else ordT A.nd r (some (A.nd i).key)) := rfl
  clear HB3 HP3 HS3 HW3 hb4
  rcases hres with ⟨s1, mo1, rfl, ho1, hw4, hk1, hk2⟩ | ⟨rfl, ho1⟩
  · have HW4 := Lib.hid hw4
    have HO1 := Lib.hid ho1
    have HK1 := Lib.hid hk1
    have HK2 := Lib.hid hk2
    clear hw4 ho1 hk1 hk2
    obtain ⟨hc0, hc1, hc2, hc3, hc4⟩ := HW4.out.cells
    have hf2 := HW4.out.frozen 2
    have hf3 := HW4.out.frozen 3
    have hx0 : w4.cell? ⟨p, 0, none⟩ = some (.int .i64 (A.nd i).key) := by rw [cell_of_row _ _ _ _ _ _ HP4.out]; rfl
    have hx3 : w4.cell? ⟨p, 3, none⟩ = some (.int .u32 ((A.nd i).right : Int)) := by rw [cell_of_row _ _ _ _ _ _ HP4.out]; rfl
    have hcase : (s1 = none ∨ ∃ k, s1 = some k ∧ k < (A.nd i).key) ∨ ∃ k, s1 = some k ∧ (A.nd i).key ≤ k := by
      cases s1 with
      | none => exact .inl (.inl rfl)
      | some k =>
        rcases Int.lt_or_le k (A.nd i).key with h | h
        · exact .inl (.inr ⟨k, rfl, h⟩)
        · exact .inr ⟨k, rfl, h⟩
    rcases hcase with hgo | ⟨k, rfl, hle⟩
    · have HF : Hid (ordT A.nd (.node i l r) s = ordT A.nd r (some (A.nd i).key)) := by
        have h1 := HOT.out
        rw [HO1.out] at h1
        rcases hgo with rfl | ⟨k, rfl, hlt⟩
        · exact h1
        · simp only [if_neg (show ¬ (A.nd i).key ≤ k by omega)] at h1
          exact h1
      have HAB : Hid (A.above (some (A.nd i).key) + 1 ≤ A.above s1) := Ar.above_step HOK.out HON.out fun k hk => by
        rcases hgo with rfl | ⟨k', rfl, hlt⟩
        · cases hk
        · cases hk; exact hlt
      have hguard : s1.isSome = false ∨ (s1.isSome = true ∧ decide ((A.nd i).key ≤ s1.getD 0) = false) := by
        rcases hgo with rfl | ⟨k', rfl, hlt⟩
        · exact .inl rfl
        · exact .inr ⟨rfl, decide_eq_false (by show ¬ (A.nd i).key ≤ k'; omega)⟩
      clear hgo
      generalize s1.isSome = bS at hc3 hguard
      generalize s1.getD 0 = kS at hc2 hguard
      rcases hguard with hg1 | ⟨hg1, hg2⟩
      all_goals
        subst hg1
        go_upto_region 9 with fail
        go_quiet (fail)
        rename Nat => dd
        have hbd : Below w4.heap.size w4 (w4.drewN dd) := below_drewN (Below.refl _ _) dd
        have HW5 : Hid (WBox (((w4.drewN dd).setCell ⟨q, 2, none⟩ (.int .i64 (A.nd i).key)).setCell ⟨q, 3, none⟩ (.bool true)) q a b N c m d (some (A.nd i).key) mo1) := (HW4.out.below hbd).next _
        have HB5 : Hid (But q w (((w4.drewN dd).setCell ⟨q, 2, none⟩ (.int .i64 (A.nd i).key)).setCell ⟨q, 3, none⟩ (.bool true))) := ((HB4.out.trans (.of_below hbd)).trans (.set _ 2 _)).trans (.set _ 3 _)
        have HP5 : Hid ((((w4.drewN dd).setCell ⟨q, 2, none⟩ (.int .i64 (A.nd i).key)).setCell ⟨q, 3, none⟩ (.bool true)).heap[p]? = some (.cells (ndRow (A.nd i)) 81 (0, 0))) := (((But.of_below (q := q) hbd).trans (.set _ 2 _)).trans (.set _ 3 _)).row HP4.out HQP.out
        have HS5 : Hid (SlotsAt (((w4.drewN dd).setCell ⟨q, 2, none⟩ (.int .i64 (A.nd i).key)).setCell ⟨q, 3, none⟩ (.bool true)) a N A.sl) := HS4.out.but (((But.of_below (q := q) hbd).trans (.set _ 2 _)).trans (.set _ 3 _)) HQ.out
        have e0 : (w4.drewN dd).cell? ⟨p, 0, none⟩ = some (.int .i64 (A.nd i).key) := hx0
        have e2 : (w4.drewN dd).cell? ⟨q, 2, none⟩ = some (.int .i64 kS) := hc2
        have e3 : (w4.drewN dd).cell? ⟨q, 3, none⟩ = some (.bool _) := hc3
        have e4 : (w4.drewN dd).frozen? ⟨q, 2, none⟩ = false := hf2
        have e5 : (w4.drewN dd).frozen? ⟨q, 3, none⟩ = false := hf3
        have hpq : p ≠ q := HQP.out
        have hpq2 : q ≠ p := fun h => hpq h.symm
        clear hbd hc0 hc1 hc2 hc3 hc4 hf2 hf3 hx0 hx3 HW4 HB4 HP4 HS4
        generalize w4.drewN dd = w5 at e0 e2 e3 e4 e5 HW5 HB5 HP5 HS5 ⊢
        go_upto_region 12 with fail
        generalize (w5.setCell ⟨q, 2, none⟩ (.int .i64 (A.nd i).key)).setCell ⟨q, 3, none⟩ (.bool true) = w6 at HW5 HB5 HP5 HS5 ⊢
        clear e0 e2 e3 e4 e5 hpq hpq2
        have hx3 : w6.cell? ⟨p, 3, none⟩ = some (.int .u32 ((A.nd i).right : Int)) := by rw [cell_of_row _ _ _ _ _ _ HP5.out]; rfl
        go_wp2_with fail
        have hr0 : (A.above (some (A.nd i).key) : Int) + (r.ht : Int) ≤ mo1 := by have := HMO.out; have := HHT.out; have := HK1.out; have := HAB.out; have := Nat.le_max_right l.ht r.ht; omega
        refine (HR.out (some (A.nd i).key) mo1 w6 HW5.out HS5.out hr0 (by have := HM1.out; have := HK2.out; omega)).mono ?_
        rintro e w7 ⟨hb7, hres⟩
        have HB7 : Hid (But q w w7) := HB5.out.trans hb7
        clear hb7 hr0 hx3
        rcases hres with ⟨s2, mo2, rfl, ho2, hw7, hk3, hk4⟩ | ⟨rfl, ho2⟩
        · have HO2 : Hid (ordT A.nd (.node i l r) s = some s2) := HF.out.trans ho2
          have HW7 := Lib.hid hw7
          have HE : Hid (mo - (A.above s : Int) ≤ mo2 - (A.above s2 : Int) ∧ mo2 ≤ mo) := (by
            have := HK1.out; have := HK2.out; have := HAB.out
            exact ⟨by omega, by omega⟩)
          clear ho2 hw7 hk3 hk4
          go_wp2_with fail
          go_ret
          exact ⟨HB7.out, .inl ⟨s2, mo2, rfl, HO2.out, HW7.out, HE.out.1, HE.out.2⟩⟩
        · have HO2 : Hid (ordT A.nd (.node i l r) s = none) := HF.out.trans ho2
          clear ho2
          go_wp2_with fail
          go_ret
          exact ⟨HB7.out, .inr ⟨rfl, HO2.out⟩⟩
    · have HF : Hid (ordT A.nd (.node i l r) s = none) := by
        have h1 := HOT.out
        rw [HO1.out] at h1
        simp only [if_pos hle] at h1
        exact h1
      have hg1 : (some k : Option Int).isSome = true := rfl
      have hg2 : decide ((A.nd i).key ≤ (some k : Option Int).getD 0) = true := decide_eq_true hle
      generalize (some k : Option Int).isSome = bS at hc3 hg1
      generalize (some k : Option Int).getD 0 = kS at hc2 hg2
      subst hg1
      clear hle
      go_upto_region 9 with fail
      go_quiet (fail)
      rename Nat => dd
      go_wp2_with fail
      go_ret
      exact ⟨HB4.out.trans (.of_below (below_drewN (Below.refl _ _) dd)), .inr ⟨rfl, HF.out⟩⟩
  · have HF : Hid (ordT A.nd (.node i l r) s = none) := by
      have h1 := HOT.out
      rw [ho1] at h1
      exact h1
    clear ho1
    go_wp2_with fail
    go_ret
    exact ⟨HB4.out, .inr ⟨rfl, HF.out⟩⟩
theorem take_d {P : Program} {ops : Array Oper} {Q : Exit → Act → World → Prop} {md : Region.Mode} {S : World → Prop} {i : Nat} {oi : Oper} {v : Value} {fuel : Nat} {listed : Array Bool} {a : Act} {w : World} (d : Option Tmp) (hi : ops[i]? = some oi)
    (hs : Region.noSelect ops = true) (hf : Region.free md ops listed i = true) (hr : (Region.ready md ops listed).contains i = true)
    (hQ : ∀ c a w, Q (.panic c) (a.put oi.dst v) w → Q (.panic c) a w) (hy : YieldsIf P ops S oi v a) (hS : S w) (hd : oi.dst = d)
    (h : wpAnyH P md ops Q S fuel (listed.setIfInBounds i true) (a.put d v) w) : wpAnyH P md ops Q S (fuel + 1) listed a w :=
  wpAnyH_take hi hs hf hr hQ hy hS (by rw [hd]; exact h)
theorem take_dk {P : Program} {ops : Array Oper} {Q : Exit → Act → World → Prop} {md : Region.Mode} {S : World → Prop} {oi : Oper} {v : Value} {fuel : Nat} {listed : Array Bool} {a : Act} {w : World} (i : Nat) (d : Tmp) (hi : ops[i]? = some oi)
    (hc : (Region.noSelect ops && Region.free md ops listed i && (Region.ready md ops listed).contains i && (oi.dst == some d)) = true)
    (hy : YieldsIf P ops S oi v a) (hS : S w) (h : wpAnyH P md ops Q S fuel (listed.setIfInBounds i true) (a.put (some d) v) w) (hQ : ∀ c a w, Q (.panic c) (a.put oi.dst v) w → Q (.panic c) a w := by exact fun _ _ _ h => h) : wpAnyH P md ops Q S (fuel + 1) listed a w := by
  simp only [Bool.and_eq_true] at hc
  obtain ⟨⟨⟨h1, h2⟩, h3⟩, h5⟩ := hc
  exact take_d (some d) hi h1 h2 h3 hQ hy hS (by simpa using h5) h
theorem ordered_any {A : Ar} {a b : Option Addr} {N c m d q : Nat} (hok : A.σ.Ok) (hN : A.σ.cap = N) (hq : ∀ b off, a = some ⟨b, off, none⟩ → b ≠ q) {i : Nat} {t : Tr} (h : Sub A i t) : OrdSpec A a b N c m d q i t := by
  induction h with
  | nil =>
    intro s mo w hw hS hmo hm1
    have HW := Lib.hid hw
    have HF : Hid (ordT A.nd .nil s = some s) := rfl
    clear hw hS
    go_enter Tryz.func106, Tryz.ntmps106
    go_wp2_with fail
    go_ret
    exact ⟨But.refl _ _, .inl ⟨s, mo, rfl, HF.out, HW.out, Int.le_refl _, Int.le_refl _⟩⟩
  | node i l r h0 h1 _ _ ihl ihr => exact ordered_node hok hN hq h0 h1 ihl ihr
theorem run_size (v0 v1 v2 v3 v4 v5 v6 v7 : Value) (w : World) : Sem.run Tryz.prog (Instr.field 81 (.agg #[v0, v1, v2, v3, v4, v5, v6, v7]) 4) w = .ok v4 w := by
  simp [Instr.field, run_underlying Tryz.underlying81, part, asAgg, Result.andThen]
theorem nz_size {A : Ar} {i : Nat} (hi : i = 0 ∨ A.σ.on i = true) (hok : A.σ.Ok) : (A.nz i).size = A.sz i := by
  unfold Ar.nz Ar.sz
  rcases hi with rfl | hi
  · rw [if_pos rfl]
    have h0 : A.σ.on 0 ≠ true := fun h => by have := (hok.on 0 h).1; omega
    rw [if_neg h0]; rfl
  · have h0 : i ≠ 0 := fun h => by have := (hok.on i hi).1; omega
    rw [if_pos hi, if_neg h0]
def BalSpec (A : Ar) (a b : Option Addr) (N c m d : Nat) (i : Nat) (t : Tr) : Prop :=
  ∀ w : World, SlotsAt w a N A.sl → Calls Tryz.prog 107 #[.agg #[.slice a N c, .slice b m d], .int .u32 (i : Int)] w (Calm w (.bool (balT A t)))
set_option maxHeartbeats 4000000 in
set_option maxRecDepth 100000 in
theorem balanced_node {A : Ar} {a b : Option Addr} {N c m d i : Nat} {l r : Tr} (hok : A.σ.Ok) (ha : A.Agg) (hN : A.σ.cap = N) (h0 : i ≠ 0) (h1 : A.σ.on i = true) (hsl : Sub A (A.nd i).left l) (hsr : Sub A (A.nd i).right r)
    (ihl : BalSpec A a b N c m d (A.nd i).left l) (ihr : BalSpec A a b N c m d (A.nd i).right r) : BalSpec A a b N c m d i (.node i l r) := by
  intro w hS
  have hi := hok.on i h1
  have hcap := hok.cap2
  have hne0 : ((i : Int) == 0) = false := by simp; omega
  have HOK := Lib.hid hok
  have HN := Lib.hid hN
  have HON := Lib.hid h1
  have HL := Lib.hid ihl
  have HR := Lib.hid ihr
  have hi32 : i < 4294967296 := by omega
  have HI := Lib.hid hi32
  have hin : (Tryz.prog.info? 81).map (·.size) = some 8 := by kernel_rfl
  have HIN := Lib.hid hin
  have hz : ∀ w, (zeroValue 81).run Tryz.prog w = .ok (.agg (ndRow Nd.zero)) w := by
    have h : (Tryz.prog.info? 81).map (·.zero) = some (some (.agg (ndRow Nd.zero))) := by kernel_rfl
    intro w
    cases hi : Tryz.prog.info? 81 with
    | none => simp [hi] at h
    | some i =>
      have hz : i.zero = some (.agg (ndRow Nd.zero)) := by simpa [hi] using h
      simp [zeroValue, typeInfo, hi, hz]
  have hbn := below_new7 w (Obj.cells #[Value.slice a N c, Value.slice b m d] 33)
  have hbox := heap_alloc_new w (Obj.cells #[Value.slice a N c, Value.slice b m d] 33)
  have HBN := Lib.hid hbn
  have HBOX := Lib.hid hbox
  have HS1 := Lib.hid (hS.below hbn)
  have HSL := Lib.hid hsl
  have HSR := Lib.hid hsr
  have HAG := Lib.hid ha
  have hk := hS.kid (i - 1) (by omega)
  have ei : A.sl (i - 1) = ⟨A.σ.on i, A.cnt i, A.σ.gen i, A.nd i⟩ := by unfold Ar.sl; rw [show i - 1 + 1 = i by omega]
  rw [ei] at hk
  have HK : Hid ((A.nd i).left < 4294967296 ∧ (A.nd i).right < 4294967296) := hk
  clear hS ihl ihr hok hN h1 hi hcap hi32 hin hbn hbox hsl hsr ha hk ei
  go_enter Tryz.func107, Tryz.ntmps107
  go_upto_region 3 with fail
  generalize w.alloc (Obj.cells #[Value.slice a N c, Value.slice b m d] 33) = w1 at HBN HBOX HS1 ⊢
  obtain ⟨q, hq⟩ : ∃ q, w.heap.size = q := ⟨_, rfl⟩
  rw [hq] at HBOX HBN ⊢
  have HQ := Lib.hid hq
  clear hq
  obtain ⟨hc0, hc1⟩ := two_cells HBOX.out
  go_wp2_with fail
  refine (refNode_any (b := b) (m := m) (d := d) (c := c) HS1.out HOK.out HN.out HI.out).mono ?_
  rintro e w2 ⟨rfl, hb2⟩
  have hnz : A.nz i = A.nd i := by unfold Ar.nz; rw [HON.out]; rfl
  rw [hnz]
  have hq2 : q < w1.heap.size := (Array.getElem?_eq_some_iff.1 HBOX.out).1
  have hbox2 := (hb2.block q hq2).trans HBOX.out
  have hrz := heap_alloc_new w2 (Obj.cells (ndRow Nd.zero) 81)
  have HRZ := Lib.hid hrz
  have hba : Below w2.heap.size w2 ((w2.alloc (Obj.cells (ndRow Nd.zero) 81)).setRow w2.heap.size (ndRow (A.nd i))) := below_setRow ((Below.refl _ _).alloc (Nat.le_refl _) _) (Nat.le_refl _) _
  have HP3 : Hid (((w2.alloc (Obj.cells (ndRow Nd.zero) 81)).setRow w2.heap.size (ndRow (A.nd i))).heap[w2.heap.size]? = some (.cells (ndRow (A.nd i)) 81 (0, 0))) := setRow_heap _ _ _ _ _ _ hrz
  have HB3 : Hid (Below q w ((w2.alloc (Obj.cells (ndRow Nd.zero) 81)).setRow w2.heap.size (ndRow (A.nd i)))) := (HBN.out.trans (hb2.mono (Nat.le_of_lt hq2))).trans (hba.mono (by have := hb2.size; omega))
  have HS3 : Hid (SlotsAt ((w2.alloc (Obj.cells (ndRow Nd.zero) 81)).setRow w2.heap.size (ndRow (A.nd i))) a N A.sl) := (HS1.out.below hb2).below hba
  have HX3 : Hid (((w2.alloc (Obj.cells (ndRow Nd.zero) 81)).setRow w2.heap.size (ndRow (A.nd i))).heap[q]? = some (.cells #[Value.slice a N c, Value.slice b m d] 33 (0, 0))) := (hba.block q (by have := hb2.size; omega)).trans hbox2
  clear hnz hc0 hc1 hq2 hbox2 hrz hba hb2 HBN HBOX HS1
  go_upto_region 4 with (refine wpList_store_row rfl 81 (.tmp 5) (.tmp 10) rfl w2.heap.size (ndRow (A.nd i)) rfl rfl 81 _ HRZ.out HIN.out rfl (ndRow_one _) ?_)
  generalize (w2.alloc (Obj.cells (ndRow Nd.zero) 81)).setRow w2.heap.size (ndRow (A.nd i)) = w3 at HB3 HS3 HP3 HX3 ⊢
  generalize w2.heap.size = p at HP3 ⊢
  clear HRZ hz HIN HON
  have HBB : Hid (balT A (.node i l r) = (bal (A.sz (A.nd i).left) (A.sz (A.nd i).right) && balT A l && balT A r)) := rfl
  obtain ⟨hsl, hsr⟩ : A.sz (A.nd i).left = (l.size : Int) ∧ A.sz (A.nd i).right = (r.size : Int) := ⟨HSL.out.size HAG.out, HSR.out.size HAG.out⟩
  have HCX : Hid (∀ wx, Below w3.heap.size w3 wx → wx.cell? ⟨q, 0, none⟩ = some (.slice a N c) ∧ wx.cell? ⟨q, 1, none⟩ = some (.slice b m d) ∧ wx.cell? ⟨p, 2, none⟩ = some (.int .u32 ((A.nd i).left : Int)) ∧ wx.cell? ⟨p, 3, none⟩ = some (.int .u32 ((A.nd i).right : Int))) := fun wx hb => by
    have h1 := (hb.block q (Array.getElem?_eq_some_iff.1 HX3.out).1).trans HX3.out
    have h2 := (hb.block p (Array.getElem?_eq_some_iff.1 HP3.out).1).trans HP3.out
    exact ⟨(two_cells h1).1, (two_cells h1).2, by rw [cell_of_row _ _ _ _ _ _ h2]; rfl, by rw [cell_of_row _ _ _ _ _ _ h2]; rfl⟩
  have HC1 : Hid (∀ wx, Below w3.heap.size w3 wx → Calls Tryz.prog 85 #[.agg #[.slice a N c, .slice b m d], .int .u32 ((A.nd i).left : Int)] wx (Calm wx (.agg #[.int .i64 (A.nz (A.nd i).left).key, .int .i64 (A.nz (A.nd i).left).val, .int .u32 ((A.nz (A.nd i).left).left : Int), .int .u32 ((A.nz (A.nd i).left).right : Int), .int .i64 (A.nz (A.nd i).left).size, .int .i64 (A.nz (A.nd i).left).sum, .int .i64 (A.nz (A.nd i).left).mn, .int .i64 (A.nz (A.nd i).left).mx]))) := fun wx hb => refNode_any (HS3.out.below hb) HOK.out HN.out HK.out.1
  have HC2 : Hid (∀ wx, Below w3.heap.size w3 wx → Calls Tryz.prog 85 #[.agg #[.slice a N c, .slice b m d], .int .u32 ((A.nd i).right : Int)] wx (Calm wx (.agg #[.int .i64 (A.nz (A.nd i).right).key, .int .i64 (A.nz (A.nd i).right).val, .int .u32 ((A.nz (A.nd i).right).left : Int), .int .u32 ((A.nz (A.nd i).right).right : Int), .int .i64 (A.nz (A.nd i).right).size, .int .i64 (A.nz (A.nd i).right).sum, .int .i64 (A.nz (A.nd i).right).mn, .int .i64 (A.nz (A.nd i).right).mx]))) := fun wx hb => refNode_any (HS3.out.below hb) HOK.out HN.out HK.out.2
  have HC3 : Hid (∀ wx, Calls Tryz.prog 91 #[.int .i64 (A.nz (A.nd i).left).size, .int .i64 (A.nz (A.nd i).right).size] wx (Calm wx (.bool (bal (A.sz (A.nd i).left) (A.sz (A.nd i).right))))) := fun wx => by
    rw [nz_size HSL.out.idx HOK.out, nz_size HSR.out.idx HOK.out]
    have hs : ∀ y, (y = 0 ∨ A.σ.on y = true) → 0 ≤ A.sz y ∧ A.sz y ≤ 2147483647 := fun y hy => by
      unfold Ar.sz
      rcases hy with rfl | hy
      · rw [if_pos rfl]; omega
      · have := HAG.out.size y hy
        split <;> omega
    have h1 := hs _ HSL.out.idx
    have h2 := hs _ HSR.out.idx
    exact (refBalanced_any _ _ wx (by omega) (by omega) (by omega) (by omega)).mono fun e w' h => ⟨h.1, by rw [h.2]; exact Below.refl _ _⟩
  have HC4 : Hid (∀ wx, Below w3.heap.size w3 wx → Calls Tryz.prog 107 #[.agg #[.slice a N c, .slice b m d], .int .u32 ((A.nd i).left : Int)] wx (Calm wx (.bool (balT A l)))) := fun wx hb => HL.out wx (HS3.out.below hb)
  have HC5 : Hid (∀ wx, Below w3.heap.size w3 wx → Calls Tryz.prog 107 #[.agg #[.slice a N c, .slice b m d], .int .u32 ((A.nd i).right : Int)] wx (Calm wx (.bool (balT A r)))) := fun wx hb => HR.out wx (HS3.out.below hb)
  clear hsl hsr HL HR HK HSL HSR HAG HOK HN HS3 HP3 HI
  obtain ⟨hc0, hc1, hp2, hp3⟩ := HCX.out _ (Below.refl _ _)
  have hbd : Below w3.heap.size w3 w3.drew := (Below.refl _ _).drew
  have hfs := run_size
  generalize bal (A.sz (A.nd i).left) (A.sz (A.nd i).right) = B1 at HBB HC3
  generalize A.nz (A.nd i).left = xl at HC1 HC3
  generalize A.nz (A.nd i).right = xr at HC2 HC3
  have HQ3 : Hid (q ≤ w3.heap.size) := Nat.le_of_lt (Array.getElem?_eq_some_iff.1 HX3.out).1
  clear HX3
  cases B1
  · skip
    refine wp_region_held_drew (S := (fun w' => Below w3.heap.size w3 w' ∧ w'.cell? ⟨q, 0, none⟩ = some (.slice a N c) ∧ w'.cell? ⟨q, 1, none⟩ = some (.slice b m d) ∧ w'.cell? ⟨p, 2, none⟩ = some (.int .u32 ((A.nd i).left : Int)) ∧ w'.cell? ⟨p, 3, none⟩ = some (.int .u32 ((A.nd i).right : Int)))) (by kernel_rfl) (by (try dsimp only); go_keep) (fun hHeld => ?_)
    refine take_dk (v := ?_) 0 11 rfl (by kernel_rfl) (Or.inl ⟨by rfl, ?_⟩) (by assumption) ?_
    rotate_left
    · intro w hSw; (try dsimp only at hSw); go_simp; try with_reducible rfl
    (try simp only [Act.put, put_s])
    refine take_dk (v := ?_) 1 12 rfl (by kernel_rfl) (Or.inl ⟨by rfl, ?_⟩) (by assumption) ?_
    rotate_left
    · intro w hSw; (try dsimp only at hSw); go_simp; try with_reducible rfl
    (try simp only [Act.put, put_s])
    refine take_dk (v := ?_) 2 13 rfl (by kernel_rfl) (Or.inl ⟨by rfl, ?_⟩) (by assumption) ?_
    rotate_left
    · intro w hSw; (try dsimp only at hSw); go_simp; try with_reducible rfl
    (try simp only [Act.put, put_s])
    refine take_dk (v := ?_) 5 16 rfl (by kernel_rfl) (Or.inl ⟨by rfl, ?_⟩) (by assumption) ?_
    rotate_left
    · intro w hSw; (try dsimp only at hSw); go_simp; try with_reducible rfl
    (try simp only [Act.put, put_s])
    refine take_dk (v := ?_) 6 17 rfl (by kernel_rfl) (Or.inl ⟨by rfl, ?_⟩) (by assumption) ?_
    rotate_left
    · intro w hSw; (try dsimp only at hSw); go_simp; try with_reducible rfl
    (try simp only [Act.put, put_s])
    refine take_dk (v := ?_) 7 18 rfl (by kernel_rfl) (Or.inl ⟨by rfl, ?_⟩) (by assumption) ?_
    rotate_left
    · intro w hSw; (try dsimp only at hSw); go_simp; try with_reducible rfl
    (try simp only [Act.put, put_s])
    refine wpAnyH_ready (rs := [3]) (by kernel_rfl) (by simp) ?_
    refine AllReadyH.cons (o := _) rfl (fun K hK => ?_) AllReadyH.nil
    go_simp
    go_at_call 85
    refine (HC1.out _ hHeld.1).mono ?_
    rintro e w6 ⟨rfl, hb6⟩
    have hbn := below_chain7 (a := w3) hHeld.1 hb6
    obtain ⟨hd0, hd1, hd2, hd3⟩ := HCX.out _ hbn
    clear hb6
    try go_wp2_with fail
    refine hK.out _ _ (by (try dsimp only); go_keep) (fun hHeld => ?_)
    clear hK K
    (try simp only [Act.put, put_s])
    refine take_dk (v := ?_) 4 15 rfl (by kernel_rfl) (Or.inl ⟨by rfl, ?_⟩) (by assumption) ?_
    rotate_left
    · intro w hSw; (try dsimp only at hSw); go_simp; try with_reducible rfl
    (try simp only [Act.put, put_s])
    refine wpAnyH_ready (rs := [8]) (by kernel_rfl) (by simp) ?_
    refine AllReadyH.cons (o := _) rfl (fun K hK => ?_) AllReadyH.nil
    go_simp
    go_at_call 85
    refine (HC2.out _ hHeld.1).mono ?_
    rintro e w6 ⟨rfl, hb6⟩
    have hbn := below_chain7 (a := w3) hHeld.1 hb6
    obtain ⟨hd0, hd1, hd2, hd3⟩ := HCX.out _ hbn
    clear hb6
    try go_wp2_with fail
    refine hK.out _ _ (by (try dsimp only); go_keep) (fun hHeld => ?_)
    clear hK K
    (try simp only [Act.put, put_s])
    refine take_dk (v := ?_) 9 20 rfl (by kernel_rfl) (Or.inl ⟨by rfl, ?_⟩) (by assumption) ?_
    rotate_left
    · intro w hSw; (try dsimp only at hSw); go_simp; try with_reducible rfl
    (try simp only [Act.put, put_s])
    refine wpAnyH_ready (rs := [10]) (by kernel_rfl) (by simp) ?_
    refine AllReadyH.cons (o := _) rfl (fun K hK => ?_) AllReadyH.nil
    go_simp
    go_at_call 91
    refine (HC3.out _).mono ?_
    rintro e w6 ⟨rfl, hb6⟩
    have hbn := below_chain7 (a := w3) hHeld.1 hb6
    obtain ⟨hd0, hd1, hd2, hd3⟩ := HCX.out _ hbn
    clear hb6
    try go_wp2_with fail
    refine hK.out _ _ (by (try dsimp only); go_keep) (fun hHeld => ?_)
    clear hK K
    (try simp only [Act.put, put_s])
    refine take_dk (v := ?_) 11 22 rfl (by kernel_rfl) (Or.inl ⟨by rfl, ?_⟩) (by assumption) ?_
    rotate_left
    · intro w hSw; (try dsimp only at hSw); go_simp; try with_reducible rfl
    (try simp only [Act.put, put_s])
    refine take_dk (v := undef) 12 23 rfl (by kernel_rfl) (Or.inr ⟨by kernel_rfl, rfl⟩) (by assumption) ?_
    (try simp only [Act.put, put_s])
    refine take_dk (v := undef) 13 24 rfl (by kernel_rfl) (Or.inr ⟨by kernel_rfl, rfl⟩) (by assumption) ?_
    (try simp only [Act.put, put_s])
    refine take_dk (v := undef) 14 25 rfl (by kernel_rfl) (Or.inr ⟨by kernel_rfl, rfl⟩) (by assumption) ?_
    (try simp only [Act.put, put_s])
    refine take_dk (v := undef) 15 26 rfl (by kernel_rfl) (Or.inr ⟨by kernel_rfl, rfl⟩) (by assumption) ?_
    (try simp only [Act.put, put_s])
    refine take_dk (v := ?_) 16 27 rfl (by kernel_rfl) (Or.inl ⟨by rfl, ?_⟩) (by assumption) ?_
    rotate_left
    · intro w hSw; (try dsimp only at hSw); go_simp; try with_reducible rfl
    (try simp only [Act.put, put_s])
    refine take_dk (v := ?_) 17 28 rfl (by kernel_rfl) (Or.inl ⟨by rfl, ?_⟩) (by assumption) ?_
    rotate_left
    · intro w hSw; (try dsimp only at hSw); go_simp; try with_reducible rfl
    (try simp only [Act.put, put_s])
    refine take_dk (v := undef) 18 29 rfl (by kernel_rfl) (Or.inr ⟨by kernel_rfl, rfl⟩) (by assumption) ?_
    (try simp only [Act.put, put_s])
    refine take_dk (v := undef) 19 30 rfl (by kernel_rfl) (Or.inr ⟨by kernel_rfl, rfl⟩) (by assumption) ?_
    (try simp only [Act.put, put_s])
    refine take_dk (v := undef) 20 31 rfl (by kernel_rfl) (Or.inr ⟨by kernel_rfl, rfl⟩) (by assumption) ?_
    (try simp only [Act.put, put_s])
    refine take_dk (v := undef) 21 32 rfl (by kernel_rfl) (Or.inr ⟨by kernel_rfl, rfl⟩) (by assumption) ?_
    (try simp only [Act.put, put_s])
    refine take_dk (v := ?_) 22 33 rfl (by kernel_rfl) (Or.inl ⟨by rfl, ?_⟩) (by assumption) ?_
    rotate_left
    · intro w hSw; (try dsimp only at hSw); go_simp; try with_reducible rfl
    (try simp only [Act.put, put_s])
    refine take_dk (v := ?_) 23 4 rfl (by kernel_rfl) (Or.inl ⟨by rfl, ?_⟩) (by assumption) ?_
    rotate_left
    · intro w hSw; (try dsimp only at hSw); go_simp; try with_reducible rfl
    (try simp only [Act.put, put_s])
    refine wpAnyH_done (by kernel_rfl) ?_ _
    have HF := Lib.hid hHeld.1
    have HQB : Hid (Below w.heap.size w _) := HQ.out ▸ (HB3.out.trans (HF.out.mono HQ3.out))
    clear hHeld hbn hd0 hd1 hd2 hd3
    go_wp2_with fail
    go_ret
    exact ⟨by rw [HBB.out]; rfl, HQB.out⟩
  · generalize balT A l = B2 at HBB HC4
    cases B2
    · skip
      refine wp_region_held_drew (S := (fun w' => Below w3.heap.size w3 w' ∧ w'.cell? ⟨q, 0, none⟩ = some (.slice a N c) ∧ w'.cell? ⟨q, 1, none⟩ = some (.slice b m d) ∧ w'.cell? ⟨p, 2, none⟩ = some (.int .u32 ((A.nd i).left : Int)) ∧ w'.cell? ⟨p, 3, none⟩ = some (.int .u32 ((A.nd i).right : Int)))) (by kernel_rfl) (by (try dsimp only); go_keep) (fun hHeld => ?_)
      refine take_dk (v := ?_) 0 11 rfl (by kernel_rfl) (Or.inl ⟨by rfl, ?_⟩) (by assumption) ?_
      rotate_left
      · intro w hSw; (try dsimp only at hSw); go_simp; try with_reducible rfl
      (try simp only [Act.put, put_s])
      refine take_dk (v := ?_) 1 12 rfl (by kernel_rfl) (Or.inl ⟨by rfl, ?_⟩) (by assumption) ?_
      rotate_left
      · intro w hSw; (try dsimp only at hSw); go_simp; try with_reducible rfl
      (try simp only [Act.put, put_s])
      refine take_dk (v := ?_) 2 13 rfl (by kernel_rfl) (Or.inl ⟨by rfl, ?_⟩) (by assumption) ?_
      rotate_left
      · intro w hSw; (try dsimp only at hSw); go_simp; try with_reducible rfl
      (try simp only [Act.put, put_s])
      refine take_dk (v := ?_) 5 16 rfl (by kernel_rfl) (Or.inl ⟨by rfl, ?_⟩) (by assumption) ?_
      rotate_left
      · intro w hSw; (try dsimp only at hSw); go_simp; try with_reducible rfl
      (try simp only [Act.put, put_s])
      refine take_dk (v := ?_) 6 17 rfl (by kernel_rfl) (Or.inl ⟨by rfl, ?_⟩) (by assumption) ?_
      rotate_left
      · intro w hSw; (try dsimp only at hSw); go_simp; try with_reducible rfl
      (try simp only [Act.put, put_s])
      refine take_dk (v := ?_) 7 18 rfl (by kernel_rfl) (Or.inl ⟨by rfl, ?_⟩) (by assumption) ?_
      rotate_left
      · intro w hSw; (try dsimp only at hSw); go_simp; try with_reducible rfl
      (try simp only [Act.put, put_s])
      refine wpAnyH_ready (rs := [3]) (by kernel_rfl) (by simp) ?_
      refine AllReadyH.cons (o := _) rfl (fun K hK => ?_) AllReadyH.nil
      go_simp
      go_at_call 85
      refine (HC1.out _ hHeld.1).mono ?_
      rintro e w6 ⟨rfl, hb6⟩
      have hbn := below_chain7 (a := w3) hHeld.1 hb6
      obtain ⟨hd0, hd1, hd2, hd3⟩ := HCX.out _ hbn
      clear hb6
      try go_wp2_with fail
      refine hK.out _ _ (by (try dsimp only); go_keep) (fun hHeld => ?_)
      clear hK K
      (try simp only [Act.put, put_s])
      refine take_dk (v := ?_) 4 15 rfl (by kernel_rfl) (Or.inl ⟨by rfl, ?_⟩) (by assumption) ?_
      rotate_left
      · intro w hSw; (try dsimp only at hSw); go_simp; try with_reducible rfl
      (try simp only [Act.put, put_s])
      refine wpAnyH_ready (rs := [8]) (by kernel_rfl) (by simp) ?_
      refine AllReadyH.cons (o := _) rfl (fun K hK => ?_) AllReadyH.nil
      go_simp
      go_at_call 85
      refine (HC2.out _ hHeld.1).mono ?_
      rintro e w6 ⟨rfl, hb6⟩
      have hbn := below_chain7 (a := w3) hHeld.1 hb6
      obtain ⟨hd0, hd1, hd2, hd3⟩ := HCX.out _ hbn
      clear hb6
      try go_wp2_with fail
      refine hK.out _ _ (by (try dsimp only); go_keep) (fun hHeld => ?_)
      clear hK K
      (try simp only [Act.put, put_s])
      refine take_dk (v := ?_) 9 20 rfl (by kernel_rfl) (Or.inl ⟨by rfl, ?_⟩) (by assumption) ?_
      rotate_left
      · intro w hSw; (try dsimp only at hSw); go_simp; try with_reducible rfl
      (try simp only [Act.put, put_s])
      refine wpAnyH_ready (rs := [10]) (by kernel_rfl) (by simp) ?_
      refine AllReadyH.cons (o := _) rfl (fun K hK => ?_) AllReadyH.nil
      go_simp
      go_at_call 91
      refine (HC3.out _).mono ?_
      rintro e w6 ⟨rfl, hb6⟩
      have hbn := below_chain7 (a := w3) hHeld.1 hb6
      obtain ⟨hd0, hd1, hd2, hd3⟩ := HCX.out _ hbn
      clear hb6
      try go_wp2_with fail
      refine hK.out _ _ (by (try dsimp only); go_keep) (fun hHeld => ?_)
      clear hK K
      (try simp only [Act.put, put_s])
      refine take_dk (v := ?_) 11 22 rfl (by kernel_rfl) (Or.inl ⟨by rfl, ?_⟩) (by assumption) ?_
      rotate_left
      · intro w hSw; (try dsimp only at hSw); go_simp; try with_reducible rfl
      (try simp only [Act.put, put_s])
      refine take_dk (v := ?_) 12 23 rfl (by kernel_rfl) (Or.inl ⟨by rfl, ?_⟩) (by assumption) ?_
      rotate_left
      · intro w hSw; (try dsimp only at hSw); go_simp; try with_reducible rfl
      (try simp only [Act.put, put_s])
      refine take_dk (v := ?_) 13 24 rfl (by kernel_rfl) (Or.inl ⟨by rfl, ?_⟩) (by assumption) ?_
      rotate_left
      · intro w hSw; (try dsimp only at hSw); go_simp; try with_reducible rfl
      (try simp only [Act.put, put_s])
      refine take_dk (v := ?_) 14 25 rfl (by kernel_rfl) (Or.inl ⟨by rfl, ?_⟩) (by assumption) ?_
      rotate_left
      · intro w hSw; (try dsimp only at hSw); go_simp; try with_reducible rfl
      (try simp only [Act.put, put_s])
      refine wpAnyH_ready (rs := [15]) (by kernel_rfl) (by simp) ?_
      refine AllReadyH.cons (o := _) rfl (fun K hK => ?_) AllReadyH.nil
      go_simp
      go_at_call 107
      refine (HC4.out _ hHeld.1).mono ?_
      rintro e w6 ⟨rfl, hb6⟩
      have hbn := below_chain7 (a := w3) hHeld.1 hb6
      obtain ⟨hd0, hd1, hd2, hd3⟩ := HCX.out _ hbn
      clear hb6
      try go_wp2_with fail
      refine hK.out _ _ (by (try dsimp only); go_keep) (fun hHeld => ?_)
      clear hK K
      (try simp only [Act.put, put_s])
      refine take_dk (v := ?_) 16 27 rfl (by kernel_rfl) (Or.inl ⟨by rfl, ?_⟩) (by assumption) ?_
      rotate_left
      · intro w hSw; (try dsimp only at hSw); go_simp; try with_reducible rfl
      (try simp only [Act.put, put_s])
      refine take_dk (v := ?_) 17 28 rfl (by kernel_rfl) (Or.inl ⟨by rfl, ?_⟩) (by assumption) ?_
      rotate_left
      · intro w hSw; (try dsimp only at hSw); go_simp; try with_reducible rfl
      (try simp only [Act.put, put_s])
      refine take_dk (v := undef) 18 29 rfl (by kernel_rfl) (Or.inr ⟨by kernel_rfl, rfl⟩) (by assumption) ?_
      (try simp only [Act.put, put_s])
      refine take_dk (v := undef) 19 30 rfl (by kernel_rfl) (Or.inr ⟨by kernel_rfl, rfl⟩) (by assumption) ?_
      (try simp only [Act.put, put_s])
      refine take_dk (v := undef) 20 31 rfl (by kernel_rfl) (Or.inr ⟨by kernel_rfl, rfl⟩) (by assumption) ?_
      (try simp only [Act.put, put_s])
      refine take_dk (v := undef) 21 32 rfl (by kernel_rfl) (Or.inr ⟨by kernel_rfl, rfl⟩) (by assumption) ?_
      (try simp only [Act.put, put_s])
      refine take_dk (v := ?_) 22 33 rfl (by kernel_rfl) (Or.inl ⟨by rfl, ?_⟩) (by assumption) ?_
      rotate_left
      · intro w hSw; (try dsimp only at hSw); go_simp; try with_reducible rfl
      (try simp only [Act.put, put_s])
      refine take_dk (v := ?_) 23 4 rfl (by kernel_rfl) (Or.inl ⟨by rfl, ?_⟩) (by assumption) ?_
      rotate_left
      · intro w hSw; (try dsimp only at hSw); go_simp; try with_reducible rfl
      (try simp only [Act.put, put_s])
      refine wpAnyH_done (by kernel_rfl) ?_ _
      have HF := Lib.hid hHeld.1
      have HQB : Hid (Below w.heap.size w _) := HQ.out ▸ (HB3.out.trans (HF.out.mono HQ3.out))
      clear hHeld hbn hd0 hd1 hd2 hd3
      go_wp2_with fail
      go_ret
      exact ⟨by rw [HBB.out]; rfl, HQB.out⟩
    · generalize hB3 : balT A r = B3 at HBB HC5
      clear hB3
      refine wp_region_held_drew (S := (fun w' => Below w3.heap.size w3 w' ∧ w'.cell? ⟨q, 0, none⟩ = some (.slice a N c) ∧ w'.cell? ⟨q, 1, none⟩ = some (.slice b m d) ∧ w'.cell? ⟨p, 2, none⟩ = some (.int .u32 ((A.nd i).left : Int)) ∧ w'.cell? ⟨p, 3, none⟩ = some (.int .u32 ((A.nd i).right : Int)))) (by kernel_rfl) (by (try dsimp only); go_keep) (fun hHeld => ?_)
      refine take_dk (v := ?_) 0 11 rfl (by kernel_rfl) (Or.inl ⟨by rfl, ?_⟩) (by assumption) ?_
      rotate_left
      · intro w hSw; (try dsimp only at hSw); go_simp; try with_reducible rfl
      (try simp only [Act.put, put_s])
      refine take_dk (v := ?_) 1 12 rfl (by kernel_rfl) (Or.inl ⟨by rfl, ?_⟩) (by assumption) ?_
      rotate_left
      · intro w hSw; (try dsimp only at hSw); go_simp; try with_reducible rfl
      (try simp only [Act.put, put_s])
      refine take_dk (v := ?_) 2 13 rfl (by kernel_rfl) (Or.inl ⟨by rfl, ?_⟩) (by assumption) ?_
      rotate_left
      · intro w hSw; (try dsimp only at hSw); go_simp; try with_reducible rfl
      (try simp only [Act.put, put_s])
      refine take_dk (v := ?_) 5 16 rfl (by kernel_rfl) (Or.inl ⟨by rfl, ?_⟩) (by assumption) ?_
      rotate_left
      · intro w hSw; (try dsimp only at hSw); go_simp; try with_reducible rfl
      (try simp only [Act.put, put_s])
      refine take_dk (v := ?_) 6 17 rfl (by kernel_rfl) (Or.inl ⟨by rfl, ?_⟩) (by assumption) ?_
      rotate_left
      · intro w hSw; (try dsimp only at hSw); go_simp; try with_reducible rfl
      (try simp only [Act.put, put_s])
      refine take_dk (v := ?_) 7 18 rfl (by kernel_rfl) (Or.inl ⟨by rfl, ?_⟩) (by assumption) ?_
      rotate_left
      · intro w hSw; (try dsimp only at hSw); go_simp; try with_reducible rfl
      (try simp only [Act.put, put_s])
      refine wpAnyH_ready (rs := [3]) (by kernel_rfl) (by simp) ?_
      refine AllReadyH.cons (o := _) rfl (fun K hK => ?_) AllReadyH.nil
      go_simp
      go_at_call 85
      refine (HC1.out _ hHeld.1).mono ?_
      rintro e w6 ⟨rfl, hb6⟩
      have hbn := below_chain7 (a := w3) hHeld.1 hb6
      obtain ⟨hd0, hd1, hd2, hd3⟩ := HCX.out _ hbn
      clear hb6
      try go_wp2_with fail
      refine hK.out _ _ (by (try dsimp only); go_keep) (fun hHeld => ?_)
      clear hK K
      (try simp only [Act.put, put_s])
      refine take_dk (v := ?_) 4 15 rfl (by kernel_rfl) (Or.inl ⟨by rfl, ?_⟩) (by assumption) ?_
      rotate_left
      · intro w hSw; (try dsimp only at hSw); go_simp; try with_reducible rfl
      (try simp only [Act.put, put_s])
      refine wpAnyH_ready (rs := [8]) (by kernel_rfl) (by simp) ?_
      refine AllReadyH.cons (o := _) rfl (fun K hK => ?_) AllReadyH.nil
      go_simp
      go_at_call 85
      refine (HC2.out _ hHeld.1).mono ?_
      rintro e w6 ⟨rfl, hb6⟩
      have hbn := below_chain7 (a := w3) hHeld.1 hb6
      obtain ⟨hd0, hd1, hd2, hd3⟩ := HCX.out _ hbn
      clear hb6
      try go_wp2_with fail
      refine hK.out _ _ (by (try dsimp only); go_keep) (fun hHeld => ?_)
      clear hK K
      (try simp only [Act.put, put_s])
      refine take_dk (v := ?_) 9 20 rfl (by kernel_rfl) (Or.inl ⟨by rfl, ?_⟩) (by assumption) ?_
      rotate_left
      · intro w hSw; (try dsimp only at hSw); go_simp; try with_reducible rfl
      (try simp only [Act.put, put_s])
      refine wpAnyH_ready (rs := [10]) (by kernel_rfl) (by simp) ?_
      refine AllReadyH.cons (o := _) rfl (fun K hK => ?_) AllReadyH.nil
      go_simp
      go_at_call 91
      refine (HC3.out _).mono ?_
      rintro e w6 ⟨rfl, hb6⟩
      have hbn := below_chain7 (a := w3) hHeld.1 hb6
      obtain ⟨hd0, hd1, hd2, hd3⟩ := HCX.out _ hbn
      clear hb6
      try go_wp2_with fail
      refine hK.out _ _ (by (try dsimp only); go_keep) (fun hHeld => ?_)
      clear hK K
      (try simp only [Act.put, put_s])
      refine take_dk (v := ?_) 11 22 rfl (by kernel_rfl) (Or.inl ⟨by rfl, ?_⟩) (by assumption) ?_
      rotate_left
      · intro w hSw; (try dsimp only at hSw); go_simp; try with_reducible rfl
      (try simp only [Act.put, put_s])
      refine take_dk (v := ?_) 12 23 rfl (by kernel_rfl) (Or.inl ⟨by rfl, ?_⟩) (by assumption) ?_
      rotate_left
      · intro w hSw; (try dsimp only at hSw); go_simp; try with_reducible rfl
      (try simp only [Act.put, put_s])
      refine take_dk (v := ?_) 13 24 rfl (by kernel_rfl) (Or.inl ⟨by rfl, ?_⟩) (by assumption) ?_
      rotate_left
      · intro w hSw; (try dsimp only at hSw); go_simp; try with_reducible rfl
      (try simp only [Act.put, put_s])
      refine take_dk (v := ?_) 14 25 rfl (by kernel_rfl) (Or.inl ⟨by rfl, ?_⟩) (by assumption) ?_
      rotate_left
      · intro w hSw; (try dsimp only at hSw); go_simp; try with_reducible rfl
      (try simp only [Act.put, put_s])
      refine wpAnyH_ready (rs := [15]) (by kernel_rfl) (by simp) ?_
      refine AllReadyH.cons (o := _) rfl (fun K hK => ?_) AllReadyH.nil
      go_simp
      go_at_call 107
      refine (HC4.out _ hHeld.1).mono ?_
      rintro e w6 ⟨rfl, hb6⟩
      have hbn := below_chain7 (a := w3) hHeld.1 hb6
      obtain ⟨hd0, hd1, hd2, hd3⟩ := HCX.out _ hbn
      clear hb6
      try go_wp2_with fail
      refine hK.out _ _ (by (try dsimp only); go_keep) (fun hHeld => ?_)
      clear hK K
      (try simp only [Act.put, put_s])
      refine take_dk (v := ?_) 16 27 rfl (by kernel_rfl) (Or.inl ⟨by rfl, ?_⟩) (by assumption) ?_
      rotate_left
      · intro w hSw; (try dsimp only at hSw); go_simp; try with_reducible rfl
      (try simp only [Act.put, put_s])
      refine take_dk (v := ?_) 17 28 rfl (by kernel_rfl) (Or.inl ⟨by rfl, ?_⟩) (by assumption) ?_
      rotate_left
      · intro w hSw; (try dsimp only at hSw); go_simp; try with_reducible rfl
      (try simp only [Act.put, put_s])
      refine take_dk (v := ?_) 18 29 rfl (by kernel_rfl) (Or.inl ⟨by rfl, ?_⟩) (by assumption) ?_
      rotate_left
      · intro w hSw; (try dsimp only at hSw); go_simp; try with_reducible rfl
      (try simp only [Act.put, put_s])
      refine take_dk (v := ?_) 19 30 rfl (by kernel_rfl) (Or.inl ⟨by rfl, ?_⟩) (by assumption) ?_
      rotate_left
      · intro w hSw; (try dsimp only at hSw); go_simp; try with_reducible rfl
      (try simp only [Act.put, put_s])
      refine take_dk (v := ?_) 20 31 rfl (by kernel_rfl) (Or.inl ⟨by rfl, ?_⟩) (by assumption) ?_
      rotate_left
      · intro w hSw; (try dsimp only at hSw); go_simp; try with_reducible rfl
      (try simp only [Act.put, put_s])
      refine wpAnyH_ready (rs := [21]) (by kernel_rfl) (by simp) ?_
      refine AllReadyH.cons (o := _) rfl (fun K hK => ?_) AllReadyH.nil
      go_simp
      go_at_call 107
      refine (HC5.out _ hHeld.1).mono ?_
      rintro e w6 ⟨rfl, hb6⟩
      have hbn := below_chain7 (a := w3) hHeld.1 hb6
      obtain ⟨hd0, hd1, hd2, hd3⟩ := HCX.out _ hbn
      clear hb6
      try go_wp2_with fail
      refine hK.out _ _ (by (try dsimp only); go_keep) (fun hHeld => ?_)
      clear hK K
      (try simp only [Act.put, put_s])
      refine take_dk (v := ?_) 22 33 rfl (by kernel_rfl) (Or.inl ⟨by rfl, ?_⟩) (by assumption) ?_
      rotate_left
      · intro w hSw; (try dsimp only at hSw); go_simp; try with_reducible rfl
      (try simp only [Act.put, put_s])
      refine take_dk (v := ?_) 23 4 rfl (by kernel_rfl) (Or.inl ⟨by rfl, ?_⟩) (by assumption) ?_
      rotate_left
      · intro w hSw; (try dsimp only at hSw); go_simp; try with_reducible rfl
      (try simp only [Act.put, put_s])
      refine wpAnyH_done (by kernel_rfl) ?_ _
      have HF := Lib.hid hHeld.1
      have HQB : Hid (Below w.heap.size w _) := HQ.out ▸ (HB3.out.trans (HF.out.mono HQ3.out))
      clear hHeld hbn hd0 hd1 hd2 hd3
      go_wp2_with fail
      go_ret
      exact ⟨by rw [HBB.out]; rfl, HQB.out⟩
theorem balanced_any {A : Ar} {a b : Option Addr} {N c m d : Nat} (hok : A.σ.Ok) (ha : A.Agg) (hN : A.σ.cap = N) {i : Nat} {t : Tr} (h : Sub A i t) : BalSpec A a b N c m d i t := by
  induction h with
  | nil =>
    intro w hS
    have hb := below_new7 w (Obj.cells #[Value.slice a N c, Value.slice b m d] 33)
    have HB := Lib.hid hb
    have HF : Hid (balT A .nil = true) := rfl
    clear hS hb
    go_enter Tryz.func107, Tryz.ntmps107
    go_wp2_with fail
    go_ret
    exact ⟨by rw [HF.out]; rfl, HB.out⟩
  | node i l r h0 h1 hl hr ihl ihr => exact balanced_node hok ha hN h0 h1 hl hr ihl ihr
def errT (A : Ar) (t : Tr) : Int := match ordT A.nd t none with | none => 7 | some _ => if balT A t = true then 0 else 8
theorem slots_lt {w : World} {a : Option Addr} {N : Nat} {S : Nat → Sl} (h : SlotsAt w a N S) (hN : 1 ≤ N) : ∀ b off, a = some ⟨b, off, none⟩ → b < w.heap.size := fun b off e => by
  obtain ⟨b', off', ha, hlt, _⟩ := h.cell 0 (by omega)
  rw [e] at ha
  simp at ha
  rw [ha.1]; exact hlt
set_option maxHeartbeats 2000000 in
set_option maxRecDepth 100000 in
theorem refCheck_ok {A : Ar} {w : World} {a b : Option Addr} {N c m d i : Nat} {t : Tr} (hok : A.σ.Ok) (ha : A.Agg) (hN : A.σ.cap = N) (hS : SlotsAt w a N A.sl) (hs : Sub A i t) (h30 : N ≤ 65536) :
    Calls Tryz.prog 84 #[.agg #[.slice a N c, .slice b m d], .int .u32 (i : Int)] w (Calm w (.int .i64 (errT A t))) := by
  have hcap := hok.cap1
  have hi : i < 4294967296 := by
    rcases hs.idx with h | h
    · omega
    · have := hok.on i h; omega
  have hbn := below_new7 w (Obj.cells #[Value.slice a N c, Value.slice b m d] 33)
  have hbox := heap_alloc_new w (Obj.cells #[Value.slice a N c, Value.slice b m d] 33)
  have hcall := dallocated_any (b := b) (m := m) (d := d) (c := c) (hS.below hbn) (by omega) hi
  have HC := Lib.hid hcall
  have HB := Lib.hid hbn
  have HBOX := Lib.hid hbox
  have HS1 := Lib.hid (hS.below hbn)
  have HLT := Lib.hid (slots_lt hS (by omega))
  have HOK := Lib.hid hok
  have HAG := Lib.hid ha
  have HN := Lib.hid hN
  have HSB := Lib.hid hs
  have hdc : i ≠ 0 → decide (1 ≤ i ∧ i ≤ N ∧ (A.sl (i - 1)).on = true) = true := fun h0 => decide_eq_true (by rw [← hN]; exact (al_on hok i).2 (hs.idx.resolve_left h0))
  have HDC := Lib.hid hdc
  have HSZ : Hid (N ≤ 65536 ∧ 1 ≤ N) := ⟨h30, by omega⟩
  obtain ⟨hc0, hc1⟩ := two_cells hbox
  have hni : (N : Int) ≤ 65536 := by omega
  have hn0 : (0 : Int) ≤ (N : Int) := by omega
  have hw1 : IntKind.i64.wrap (2 * (N : Int)) = 2 * (N : Int) := by rw [IntKind.wrap_i64]; omega
  have hw2 : IntKind.i64.wrap (2 * (N : Int) + 2) = 2 * (N : Int) + 2 := by rw [IntKind.wrap_i64]; omega
  have hmid : ∃ X : World → Prop, X = (fun w1 => Below w.heap.size w w1 ∧ w1.heap[w.heap.size]? = some (.cells #[Value.slice a N c, Value.slice b m d] 33 (0, 0)) ∧ SlotsAt w1 a N A.sl) := ⟨_, rfl⟩
  clear hcall hbn hbox hS hok hN hcap ha hs hdc h30 hmid
  go_enter Tryz.func84, Tryz.ntmps84
  go_upto_region 1 with fail
  generalize w.alloc (Obj.cells #[Value.slice a N c, Value.slice b m d] 33) = w1 at HC HB HBOX HS1 hc0 hc1 ⊢
  obtain ⟨q0, hq0⟩ : ∃ q0, w.heap.size = q0 := ⟨_, rfl⟩
  rw [hq0] at HB HBOX HLT hc0 hc1 ⊢
  have HQ0 := Lib.hid hq0
  clear hq0
  go_cut [13] (fun s13 wx => s13 = .bool false ∧ Below w1.heap.size w1 wx)
  case first =>
    by_cases h0 : i = 0
    · subst h0
      go_wp2_with fail
      go_meet
      exact ⟨rfl, Below.refl _ _⟩
    · have hd := HDC.out h0
      have hC := HC.out
      rw [hd] at hC
      have HC2 := Lib.hid hC
      have hne : ((i : Int) == 0) = false := by simp; omega
      have hne3 : ¬ (i : Int) = 0 := by omega
      clear hd hC
      go_wp2_with fail
      refine HC2.out.mono ?_
      rintro e w2 ⟨rfl, hb2⟩
      have HB2 := Lib.hid hb2
      clear hb2
      go_wp2_with fail
      go_meet
      exact ⟨rfl, HB2.out⟩
  case' rest =>
    rename World => w2
    obtain ⟨rfl, hb2⟩ := hcut
    clear hc0 hc1 HC HDC
    have hq1 : q0 < w1.heap.size := (Array.getElem?_eq_some_iff.1 HBOX.out).1
    have hbox2 := (hb2.block q0 hq1).trans HBOX.out
    obtain ⟨hc0, hc1⟩ := two_cells hbox2
    have hbox3 := heap_alloc_new w2 (Obj.cells #[.slice a N c, .slice b m d, .int .i64 ((none : Option Int).getD 0), .bool (none : Option Int).isSome, .int .i64 (2 * (N : Int) + 2)] 153)
    have hb3 := below_new7 w2 (Obj.cells #[.slice a N c, .slice b m d, .int .i64 ((none : Option Int).getD 0), .bool (none : Option Int).isSome, .int .i64 (2 * (N : Int) + 2)] 153)
    have HW3 : Hid (WBox (w2.alloc (Obj.cells #[.slice a N c, .slice b m d, .int .i64 0, .bool false, .int .i64 (2 * (N : Int) + 2)] 153)) w2.heap.size a b N c m d none (2 * (N : Int) + 2)) := ⟨hbox3⟩
    have HB3 : Hid (Below q0 w (w2.alloc (Obj.cells #[.slice a N c, .slice b m d, .int .i64 0, .bool false, .int .i64 (2 * (N : Int) + 2)] 153))) := (HB.out.trans (hb2.mono (Nat.le_of_lt hq1))).trans (hb3.mono (by have := hb2.size; omega))
    have HS3 : Hid (SlotsAt (w2.alloc (Obj.cells #[.slice a N c, .slice b m d, .int .i64 0, .bool false, .int .i64 (2 * (N : Int) + 2)] 153)) a N A.sl) := (HS1.out.below hb2).below hb3
    have HX3 : Hid ((w2.alloc (Obj.cells #[.slice a N c, .slice b m d, .int .i64 0, .bool false, .int .i64 (2 * (N : Int) + 2)] 153)).heap[q0]? = some (.cells #[Value.slice a N c, Value.slice b m d] 33 (0, 0))) := (hb3.block q0 (by have := hb2.size; omega)).trans hbox2
    have HQ2 : Hid (q0 < w2.heap.size ∧ q0 ≤ w2.heap.size) := (by have := hb2.size; exact ⟨by omega, by omega⟩)
    have HSQ : Hid (∀ b off, a = some ⟨b, off, none⟩ → b ≠ w2.heap.size) := fun b off e => by have := HLT.out b off e; have := HQ2.out; omega
    clear hbox2 hbox3 hb2 hb3 hq1 HBOX HB HS1 HLT
    go_wp2_with fail
    generalize w2.alloc (Obj.cells #[.slice a N c, .slice b m d, .int .i64 0, .bool false, .int .i64 (2 * (N : Int) + 2)] 153) = w3 at HW3 HB3 HS3 HX3 ⊢
    generalize w2.heap.size = q2 at HW3 HQ2 HSQ ⊢
    have hsl : (A.above none : Int) + (t.ht : Int) ≤ 2 * (N : Int) + 2 := by
      have h1 := A.above_le none
      have h2 := HSB.out.ht_cap HOK.out HAG.out
      have h3 := HN.out
      omega
    refine (ordered_any HOK.out HN.out HSQ.out HSB.out none (2 * (N : Int) + 2) w3 HW3.out HS3.out hsl (by omega)).mono ?_
    rintro e w4 ⟨hb4, hres⟩
    have HB4 : Hid (Below q0 w w4) := HB3.out.trans (hb4.belowB (by have := HQ2.out; omega) (Nat.le_of_lt (Array.getElem?_eq_some_iff.1 HX3.out).1))
    have HX4 : Hid (w4.heap[q0]? = some (.cells #[Value.slice a N c, Value.slice b m d] 33 (0, 0))) := hb4.row HX3.out (by have := HQ2.out; omega)
    have HS4 : Hid (SlotsAt w4 a N A.sl) := HS3.out.but hb4 HSQ.out
    clear hb4 hsl HB3 HX3 HS3 HW3 hc0 hc1
    rcases hres with ⟨s', mo', rfl, ho, _, _, _⟩ | ⟨rfl, ho⟩
    · have HE : Hid (errT A t = if balT A t = true then 0 else 8) := by
        show errT A t = _
        unfold errT
        rw [ho]
      clear ho
      obtain ⟨hc0, hc1⟩ := two_cells HX4.out
      go_wp2_with fail
      refine (balanced_any HOK.out HAG.out HN.out HSB.out w4 HS4.out).mono ?_
      rintro e w5 ⟨rfl, hb5⟩
      have HB5 : Hid (Below w.heap.size w w5) := by
        show Below w.heap.size w w5
        rw [HQ0.out]
        exact HB4.out.trans (hb5.mono (Nat.le_of_lt (Array.getElem?_eq_some_iff.1 HX4.out).1))
      clear hb5 hc0 hc1
      cases hB : balT A t
      · have HF : Hid (errT A t = 8) := by
          show errT A t = 8
          rw [HE.out, hB]; rfl
        clear hB
        go_wp2_with fail
        go_ret
        exact ⟨by rw [HF.out]; rfl, HB5.out⟩
      · have HF : Hid (errT A t = 0) := by
          show errT A t = 0
          rw [HE.out, hB]; rfl
        clear hB
        go_wp2_with fail
        go_ret
        exact ⟨by rw [HF.out]; rfl, HB5.out⟩
    · have HF : Hid (errT A t = 7) := by
        show errT A t = 7
        unfold errT
        rw [ho]
      have HB5 : Hid (Below w.heap.size w w4) := by
        show Below w.heap.size w w4
        rw [HQ0.out]
        exact HB4.out
      clear ho
      go_wp2_with fail
      go_ret
      exact ⟨by rw [HF.out]; rfl, HB5.out⟩
end Go.Proofs.YtfihklpofmcfgaaGreat
