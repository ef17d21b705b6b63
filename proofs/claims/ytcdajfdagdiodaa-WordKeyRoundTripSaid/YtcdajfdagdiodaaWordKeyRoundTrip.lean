/-
  For all slices of bytes b and tail and every int64 k: AppendKey gives b followed by the reference's 8 bytes of k, and Key reads k back at the end of b, whatever follows; the examples of the chapter hold. No condition.
-/
import Derived.Test.YtcdajfdagdiodaaRows
import Derived.Test.YtcdajfdagdiodaaOpen
import Derived.Test.YtcdajfdagdiodaaDec3
import Derived.WalkKit
import Derived.ProofKit
import Derived.OpenShut
import Derived.ShutString
import Derived.ChangeOld
import Derived.Below
import Derived.SizedLaws
set_option linter.unusedSimpArgs false
namespace Go.Proofs.Ytcdajfdagdiodaa.wordKeyRoundTrip
open Go.ChangeShapes Go.WideShapes Go.ChangeAt Go.RowKit
open Go.ChangeMaps (open_string shut_string)
set_option linter.unusedVariables false

theorem own : ownKnob Try.prog.godebug = none := by kernel_rfl
theorem laidOut : laidOutB Try.prog = true := by kernel_rfl

def IsRow (k : IntKind) (w : World) (a : Option Addr) (len cap : Nat) (zs : List Int) : Prop :=
  (a = none ∧ len = 0 ∧ cap = 0 ∧ zs = []) ∨
  ∃ x, a = some x ∧ len ≤ cap ∧ cap ≤ maxLen ∧ zs.length = cap ∧ (∀ i, i < zs.length → w.cell? (x.add i) = some (.int k (zs.getD i 0))) ∧ ∀ n ∈ zs, (Lit.int k n).wf = true

set_option maxHeartbeats 1000000 in
theorem walk (a0 : Option Addr) (len0 cap0 : Nat) (z0 : List Int) (a1 : Int) (a2 : Option Addr) (len2 cap2 : Nat) (z2 : List Int) (w : World) (w0 : IsRow .u8 w a0 len0 cap0 z0) (w1 : (Lit.int .i64 a1).wf = true) (w2 : IsRow .u8 w a2 len2 cap2 z2) (hr0 : cap0 ≤ 140737488351232) (hr2 : cap2 ≤ 140737488351232) :
    Calls Try.prog 9 #[.slice a0 len0 cap0, .int .i64 a1, .slice a2 len2 cap2] w fun e w' => e = .returned (.bool true) ∧ Below w.heap.size w w' := by
  have hbs := bs_of_row w0
  have hbt := bs_of_row w2
  obtain ⟨hu1, hu2⟩ := wf_i64 w1
  have hle : len0 ≤ cap0 := hbs.2.1
  have hle2 : len2 ≤ cap2 := hbt.2.1
  generalize z0.take len0 = L at hbs
  generalize z2.take len2 = T at hbt
  have hby := be_byt 8 (kw a1)
  have hbl8 := be_len 8 (kw a1)
  obtain ⟨hk1, hk2⟩ := kw_bd a1 hu1 hu2
  have HO := Lib.hid (ob_be8 (kw a1) hk1 hk2)
  have HL8 := Lib.hid hbl8
  clear hbl8
  clear w0 w2
  go_enter Try.func9, Try.ntmps9
  go_wp2_with fail
  refine (appendKey_any _ _ _ L a1 _ hbs hu1 hu2 (by omega)).mono ?_
  rintro e w1 ⟨rfl, ho, hbl⟩
  have hx := Bs.own ho (hbs.byt.app hby)
  have hbs1 := hbs.below hbl
  have hbt1 := hbt.below hbl
  clear ho hbs hbt
  go_wp2_with fail
  refine (awake_any _).mono ?_
  rintro e w2 ⟨rfl, hb2⟩
  have hx2 := hx.below hb2
  have hbs2 := hbs1.below hb2
  have hbt2 := hbt1.below hb2
  have hbl2 : Below w.heap.size w w2 := hbl.trans (hb2.mono hbl.size)
  clear hx hbs1 hbt1 hbl hb2
  go_wp2_with fail
  refine (keyBytes_any a1 _ hu1 hu2).mono ?_
  rintro e w3 ⟨rfl, ho3, hb3⟩
  have hv3 := Bs.own ho3 hby
  have hx3 := hx2.below hb3
  have hbs3 := hbs2.below hb3
  have hbt3 := hbt2.below hb3
  have hbl3 : Below w.heap.size w w3 := hbl2.trans (hb3.mono hbl2.size)
  clear hx2 hbs2 hbt2 hbl2 hb3 ho3
  go_wp2_with fail
  refine (join_any _ _ _ _ _ _ L (be 8 (kw a1)) _ hbs3 hv3 (by omega)).mono ?_
  rintro e w4 ⟨rfl, ho4, hb4⟩
  have hj4 := Bs.own ho4 (hbs3.byt.app hby)
  have hx4 := hx3.below hb4
  have hbt4 := hbt3.below hb4
  have hbl4 : Below w.heap.size w w4 := hbl3.trans (hb4.mono hbl3.size)
  clear hx3 hbs3 hbt3 hbl3 hb4 ho4 hv3
  go_wp2_with fail
  refine (same_any _ _ _ _ _ _ _ _ _ hx4 hj4 (by omega)).mono ?_
  rintro e w5 ⟨rfl, q, rfl⟩
  rw [decide_eq_true rfl]
  go_wp2_with fail
  refine (join_any _ _ _ _ _ _ _ _ _ (hx4.drewN q) (hbt4.drewN q) (by omega)).mono ?_
  rintro e w5 ⟨rfl, ho5, hb5⟩
  have hl := Bs.own ho5 ((hx4.byt).app hbt4.byt)
  have hbl5 : Below w.heap.size w w5 := (below_drewN hbl4 q).trans (hb5.mono (by have := hbl4.size; simpa using this))
  have hL : L.length = len0 := by
    have h1 := hx4.len
    have h8 := HL8.out
    simp at h1
    omega
  have HV := Lib.hid (keyV_ok (zs := L ++ be 8 (kw a1) ++ T) (p := len0) (by have := HL8.out; simp; omega))
  have HW : Hid (ob (((L ++ be 8 (kw a1) ++ T).drop len0).take 8) - 9223372036854775808 = a1) := by
    rw [List.append_assoc, List.drop_append_of_le_length (by omega), List.drop_eq_nil_of_le (by omega), List.nil_append, List.take_append_of_le_length (by rw [HL8.out]; exact Nat.le_refl _), List.take_of_length_le (by rw [HL8.out]; exact Nat.le_refl _), HO.out]
    unfold kw
    show a1 + 9223372036854775808 - 9223372036854775808 = a1
    omega
  clear hx4 hj4 hbt4 hbl4 hb5 ho5 hL hby HO
  go_wp2_with fail
  refine (key_any _ _ _ _ _ _ hl (by omega)).mono ?_
  rintro e w6 ⟨rfl, rfl⟩
  rw [HV.out, HW.out]
  go_wp2
  go_ret
  exact ⟨rfl, hbl5⟩

set_option maxRecDepth 100000 in
theorem lifted (os : Os) (started : os.Started) (H : Type) (enc : TypeId × Value → H) :
    ReturnsInHanded {} Try.checked os 9 .any (Rows.wordKeyRoundTripSpec.pre6 enc Try.prog Try.f9 Rows.wordKeyRoundTripRow.domain false) (Rows.wordKeyRoundTripSpec.post enc Try.prog Try.f9 false true false false) := by
  refine returnsInHanded_of_change_sized (C := Try.checked) own started (by kernel_rfl) Try.func9
    (ChangeSpec.witness6 (enc := enc) (C := Try.checked) false ⟨#[], #[.slice none 0 0, .int .i64 0, .slice none 0 0], []⟩ 8 (by kernel_rfl) (by kernel_rfl) (by kernel_rfl) (by kernel_rfl)) ?_
  intro W base args ds gs before hval0 hW hcnd hsz0 _
  have hsz : (DataW.weightsEach Try.prog (Try.f9.params.toList ++ Rows.wordKeyRoundTripSpec.plain.varTypes Try.prog) (ds ++ gs)).all (· ≤ reachBytes) = true := hsz0
  clear hsz0
  have hval : ∀ (j : Nat) t v, Try.f9.params[j]? = some t → args[j]? = some v → Value.okWide Try.prog W .any base t v := hval0
  have hW' := hW
  obtain ⟨p, q, hA0, hV, rfl, hfz, hnd⟩ := hW
  have hA : DataW.TrodAll enc Try.prog W 0 (fun _ => true) true Try.f9.params.toList args.toList ds p := hA0
  rw [Try.params9] at hA hval hsz
  obtain ⟨v0, vs0, d0, ds0, p0, q0, hargs, rfl, rfl, h0, r0⟩ := trodAll_cons hA
  obtain ⟨v1, vs1, d1, ds1, p1, q1, rfl, rfl, rfl, h1, r1⟩ := trodAll_cons r0
  obtain ⟨v2, vs2, d2, ds2, p2, q2, rfl, rfl, rfl, h2, r2⟩ := trodAll_cons r1
  obtain ⟨rfl, rfl, rfl⟩ := trodAll_nil r2
  obtain rfl : args = #[v0, v1, v2] := by cases args; simp_all
  obtain ⟨rfl, rfl⟩ := trodVars_none hV
  obtain ⟨a0, len0, cap0, rfl⟩ := okWide_slice Try.underlying28 (hval 0 28 v0 rfl rfl)
  have k0 := h0
  have lt0 : ∀ x ∈ p0, x.block < W.heap.size := by obtain ⟨m, hm⟩ := k0; exact DataW.trod_lt m _ _ _ hm
  obtain ⟨z0, w0, hr0⟩ : ∃ zs, IsRow .u8 W a0 len0 cap0 zs ∧ cap0 ≤ 140737488351232 := by
    obtain ⟨fuel, hf⟩ := h0
    rcases open_ints Try.underlying28 Try.underlying5 (by kernel_rfl) hf with ⟨hcs, _⟩ | ⟨x, l, c, zs, hcs, _, hl, hm, hz, hx, hcell, hwz⟩
    · simp [Value.cells] at hcs
      obtain ⟨rfl, rfl, rfl⟩ := hcs
      exact ⟨[], .inl ⟨rfl, rfl, rfl, rfl⟩, by omega⟩
    · simp [Value.cells] at hcs
      obtain ⟨rfl, rfl, rfl⟩ := hcs
      have hd := (Prod.mk.inj hx).1
      have hs := sized_slice hsz (j := 0) (t := 28) (e := 5) rfl (by rw [hd]; rfl) Try.underlying28
      rw [byte5] at hs
      have hz2 : zs.length = cap0 := by simpa using hz
      simp only [lits, List.length_map, List.length_take, List.length_drop, reachBytes] at hs
      exact ⟨zs, .inr ⟨_, rfl, hl, hm, hz2, hcell, hwz⟩, by omega⟩
  obtain ⟨a1, rfl, rfl, rfl, w1⟩ := open_int Try.underlying2 (hval 1 2 v1 rfl rfl) h1
  obtain ⟨a2, len2, cap2, rfl⟩ := okWide_slice Try.underlying28 (hval 2 28 v2 rfl rfl)
  have k2 := h2
  have lt2 : ∀ x ∈ p2, x.block < W.heap.size := by obtain ⟨m, hm⟩ := k2; exact DataW.trod_lt m _ _ _ hm
  obtain ⟨z2, w2, hr2⟩ : ∃ zs, IsRow .u8 W a2 len2 cap2 zs ∧ cap2 ≤ 140737488351232 := by
    obtain ⟨fuel, hf⟩ := h2
    rcases open_ints Try.underlying28 Try.underlying5 (by kernel_rfl) hf with ⟨hcs, _⟩ | ⟨x, l, c, zs, hcs, _, hl, hm, hz, hx, hcell, hwz⟩
    · simp [Value.cells] at hcs
      obtain ⟨rfl, rfl, rfl⟩ := hcs
      exact ⟨[], .inl ⟨rfl, rfl, rfl, rfl⟩, by omega⟩
    · simp [Value.cells] at hcs
      obtain ⟨rfl, rfl, rfl⟩ := hcs
      have hd := (Prod.mk.inj hx).1
      have hs := sized_slice hsz (j := 2) (t := 28) (e := 5) rfl (by rw [hd]; rfl) Try.underlying28
      rw [byte5] at hs
      have hz2 : zs.length = cap2 := by simpa using hz
      simp only [lits, List.length_map, List.length_take, List.length_drop, reachBytes] at hs
      exact ⟨zs, .inr ⟨_, rfl, hl, hm, hz2, hcell, hwz⟩, by omega⟩
  clear hA0 hval0
  refine (walk a0 len0 cap0 z0 a1 a2 len2 cap2 z2 W w0 w1 w2 hr0 hr2).mono fun e W' ⟨he, bel⟩ => ?_
  subst he
  exact ⟨_, rfl, _, _, _, [], _, [], hW', trodAll_mk1 (shut_bool Try.underlying4 _), (trodAll_cons_mk (Below.trod laidOut (by kernel_rfl) (of_decide_eq_true (by kernel_rfl)) k0 bel lt0) (trodAll_cons_mk (shut_int Try.underlying2 w1) (trodAll_cons_mk (Below.trod laidOut (by kernel_rfl) (of_decide_eq_true (by kernel_rfl)) k2 bel lt2) trodAll_mk0))), rfl, bel.frame _, fun h => by cases h⟩

theorem over : Rows.wordKeyRoundTripRow.holds Try.pinned (OpenSpec.ofChange Rows.wordKeyRoundTripSpec) :=
  OpenClaim.holds_of_wide 9 Try.f9 rfl rfl rfl rfl rfl rfl rfl ⟨rfl, rfl, rfl, rfl, rfl⟩ rfl rfl rfl rfl rfl (by kernel_rfl) Try.func9 (by kernel_rfl)
    (of_decide_eq_true (by kernel_rfl)) (by unfold Func.isWrapper; first | (rw [if_pos (by decide +kernel)]; kernel_rfl) | (rw [if_neg (by decide +kernel)]; exact ⟨rfl, rfl⟩))
    (fun os started H enc _ => lifted os started H enc)

theorem proved : Rows.WordKeyRoundTripSaid := over
end Go.Proofs.Ytcdajfdagdiodaa.wordKeyRoundTrip
