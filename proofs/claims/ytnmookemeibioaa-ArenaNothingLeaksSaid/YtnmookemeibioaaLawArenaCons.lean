/- The walk of ArenaIsConsistent. Condition: the program's functions and the reference's Check keep their contracts. -/
import Derived.Test.YtnmookemeibioaaPlay3
import Derived.Test.YtnmookemeibioaaSoundW
set_option linter.unusedVariables false
namespace Go.Proofs.Ytnmookemeibioaa
open Go.RowKit
theorem held_ok {A : Ar} {l : List Nat} (h : A.Inv [] (hof l)) : ∀ x ∈ l, x = 0 ∨ A.σ.on x = true := fun x hx => held_idx h (.inr hx)
/-- Sound of the client's arena with what it holds -/
theorem tc_sound (hchk : CheckSpec) {I : AImpl} {B q : Nat} {w0 w : World} {p : Value} {A : Ar} {rd : Int} {l : List Nat} {xa : Option Addr} {xc : Nat} (h : TC I B w0 w q p (.slice xa l.length xc) A rd (hof l) l) (hl : l.length ≤ 1000000) :
    Calls Try.prog 38 #[p, .slice xa l.length xc] w (Calm w (.bool true)) := by
  obtain ⟨F, h1, _⟩ := h.has
  exact sound_any hchk I h1 h.inv h.agg (row_u32 h.row (held_lt h.inv)) hl (held_ok h.inv)
theorem sound_at (hchk : CheckSpec) {I : AImpl} {B q L : Nat} {w0 w : World} {p : Value} {A : Ar} {rd : Int} {l : List Nat} {xa : Option Addr} {xc : Nat} (hL : l.length = L) (h : TC I B w0 w q p (.slice xa l.length xc) A rd (hof l) l) (hl : L ≤ 1000000) :
    Calls Try.prog 38 #[p, .slice xa L xc] w (Calm w (.bool true)) := by
  subst hL
  exact tc_sound hchk h hl
set_option maxHeartbeats 4000000 in
set_option maxRecDepth 100000 in
theorem cons_walk (hchk : CheckSpec) (I : AImpl) (c : Int) (a : Option Addr) (m cap : Nat) (w : World) (hv1 : -9223372036854775808 ≤ c) (hv2 : c ≤ 9223372036854775807) (hl : StepsIn w a m) (hc : m ≤ cap) (hm : cap ≤ maxLen) :
    Calls Try.prog 5 #[.int .i64 c, .slice a m cap] w fun e w' => e = .returned (.bool true) ∧ Below w.heap.size w w' := by
  have hr := Int.emod_nonneg c (b := 30) (by omega)
  have hr2 := Int.emod_lt_of_pos c (b := 30) (by omega)
  obtain ⟨r, hr3⟩ := Int.eq_ofNat_of_zero_le hr
  rw [hr3] at hr2
  have hr4 : r < 30 := by omega
  have HR := Lib.hid hr3
  obtain ⟨n, hn⟩ : ∃ n : Nat, n = r + 1 := ⟨_, rfl⟩
  have HN : Hid ((1 : Int) + (r : Int) = (n : Int)) := by show (1 : Int) + (r : Int) = (n : Int); omega
  have hn1 : 1 ≤ n := by omega
  have hn2 : n ≤ 30 := by omega
  have HLI := Lib.hid hl
  clear hr hr2 hr3 hn hl
  go_enter Try.func5, Try.ntmps5
  go_wp2_with fail
  refine (mod_any c 30 _ hv1 hv2 (by decide) (by decide)).mono ?_
  rintro e w2 ⟨rfl, rfl⟩
  rw [HR.out]
  go_wp2_with fail
  rw [HN.out]
  refine (play_any I a n m cap _ HLI.out hc hm hn1 hn2).mono ?_
  rintro e w1 ⟨q, pa, A, xa, xc, l, rfl, hcap, hl80, hT⟩
  obtain ⟨hc0, hc1⟩ := hT.cells
  have HT := Lib.hid hT
  obtain ⟨L, hL⟩ : ∃ L, l.length = L := ⟨_, rfl⟩
  have HL := Lib.hid hL
  rw [hL] at hc1
  have hli : L ≤ 80 := by omega
  clear hT hcap hl80 hL
  go_upto_region 2 with fail
  have hbd : Below w1.heap.size w1 w1.drew := (Below.refl _ _).drew
  go_region_held3 (fun w' => Below w1.heap.size w1 w' ∧ w'.cell? ⟨q, 0, none⟩ = some (.pointer (some pa)) ∧ w'.cell? ⟨q, 1, none⟩ = some (.slice xa L xc)) (go_keep) (first
    | (go_at_call 12; refine (awake_any I _).mono ?_; rintro e wA ⟨rfl, hbA⟩; have hbn := below_chain (a := w1) (by assumption) hbA; obtain ⟨hd0, hd1⟩ := (HT.out.calm hbn).cells; rw [HL.out] at hd1)
    | (go_at_call 38; refine (sound_at hchk HL.out (HT.out.calm (by assumption)) (by omega)).mono ?_; rintro e wB ⟨rfl, hbB⟩; have hbm := below_chain (a := w1) (by assumption) hbB; obtain ⟨he0, he1⟩ := (HT.out.calm hbm).cells; rw [HL.out] at he1))
  all_goals (go_wp2_with fail; go_ret; exact ⟨rfl, HT.out.below.trans (hbm.mono HT.out.hB)⟩)
end Go.Proofs.Ytnmookemeibioaa
