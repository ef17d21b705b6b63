/-
  For every slice of bytes and every index brought into its range: what Uvarint accepts is the varint that AppendUvarint writes of its result; the examples of the chapter hold. No condition.
-/
import Derived.Test.YtcdajfdagdiodaaRows
import Derived.Test.YtcdajfdagdiodaaOpen
import Derived.Test.YtcdajfdagdiodaaDec
import Derived.WalkKit
import Derived.ProofKit
import Derived.OpenShut
import Derived.ShutString
import Derived.ChangeOld
import Derived.Below
import Derived.SizedLaws
import Derived.Deep.RegionWith
set_option linter.unusedSimpArgs false
namespace Go.Proofs.Ytcdajfdagdiodaa.wordUvarintIsCanonical
open Go.ChangeShapes Go.WideShapes Go.ChangeAt Go.RowKit
open Go.ChangeMaps (open_string shut_string)
set_option linter.unusedVariables false

theorem own : ownKnob Try.prog.godebug = none := by kernel_rfl
theorem laidOut : laidOutB Try.prog = true := by kernel_rfl

def IsRow (k : IntKind) (w : World) (a : Option Addr) (len cap : Nat) (zs : List Int) : Prop :=
  (a = none ∧ len = 0 ∧ cap = 0 ∧ zs = []) ∨
  ∃ x, a = some x ∧ len ≤ cap ∧ cap ≤ maxLen ∧ zs.length = cap ∧ (∀ i, i < zs.length → w.cell? (x.add i) = some (.int k (zs.getD i 0))) ∧ ∀ n ∈ zs, (Lit.int k n).wf = true

set_option maxHeartbeats 1000000 in
theorem walk (a0 : Option Addr) (len0 cap0 : Nat) (z0 : List Int) (a1 : Int) (w : World) (w0 : IsRow .u8 w a0 len0 cap0 z0) (w1 : (Lit.int .i64 a1).wf = true) (hr0 : cap0 ≤ 140737488351232) :
    Calls Try.prog 7 #[.slice a0 len0 cap0, .int .i64 a1] w fun e w' => e = .returned (.bool true) ∧ Below w.heap.size w w' := by
  have hbs := bs_of_row w0
  have hle : len0 ≤ cap0 := hbs.2.1
  obtain ⟨hp1, hp2⟩ := wf_i64 w1
  generalize z0.take len0 = L at hbs
  clear w0
  obtain ⟨p, hp⟩ := Int.eq_ofNat_of_zero_le (Int.emod_nonneg a1 (b := (len0 : Int) + 1) (by omega))
  have hpl := Int.emod_lt_of_pos a1 (b := (len0 : Int) + 1) (by omega)
  rw [hp] at hpl
  have hpn : p ≤ len0 := by omega
  have HP := Lib.hid hp
  clear hp
  by_cases he : (dec 0 0 (L.drop p)).2.2 = 0
  · obtain ⟨X, m, hX0, _, hd, hm0, hm1, ht⟩ := dec_canon 9 0 0 (L.drop p) rfl (hbs.byt.drop p) he
    have hbd := dec_bd 9 0 0 (L.drop p) rfl (hbs.byt.drop p) (by decide) (by decide)
    rw [hd] at hbd
    have hX1 : X < 18446744073709551616 := by have := hbd.2.1; simpa using this
    have hd2 : dec 0 0 (L.drop p) = (X, m, 0) := by rw [hd]; simp
    have hml : p + m ≤ len0 := by have := hbs.len; simp at hm1; omega
    obtain ⟨N, hN⟩ : ∃ N : Nat, N = p + m := ⟨_, rfl⟩
    have HV : Hid (uvV (uvD L (p : Int)) = .tuple #[.int .u64 X, .int .i64 (N : Int), .int .i64 0]) := by
      have h := uvV_ok (zs := L) (p := p) (by rw [hbs.len]; exact hpn) hd2
      rw [show (p : Int) + (m : Int) = (N : Int) by omega] at h
      exact h
    obtain ⟨b, off, rfl, hbb, _⟩ := hbs.at_ (by omega)
    have hpart : Bs w (some ⟨b, off + p, none⟩) (N - p) (cap0 - p) (vs 9 X) := by
      have := hbs.part (i := p) (j := N) (c := cap0 - p) (by omega) (by omega) (by omega)
      rw [show N - p = m by omega] at this ⊢
      rw [ht] at this
      exact this
    have hpN : p < N := by omega
    have hNl : N ≤ len0 := by omega
    have hNc : N ≤ cap0 := by omega
    clear hN hml
    clear he hd hd2 ht hbd hm1
    have HB := Lib.hid hbs
    clear hbs
    go_enter Try.func7, Try.ntmps7
    go_wp2_with fail
    refine (mod_any a1 _ _ hp1 hp2 (by omega) (by omega)).mono ?_
    rintro e w1 ⟨rfl, rfl⟩
    rw [HP.out]
    go_wp2_with fail
    refine (uv_any _ _ _ _ L _ HB.out (by omega)).mono ?_
    rintro e w1 ⟨rfl, rfl⟩
    rw [HV.out]
    clear HB HV HP
    go_wp2_with fail
    refine (awake_any _).mono ?_
    rintro e w1 ⟨rfl, hb⟩
    have hpart1 := hpart.below hb
    clear hpart
    have g1 : (p : Int) < (N : Int) := by omega
    have g2 : (N : Int) ≤ (len0 : Int) := by omega
    have d1 : decide ((p : Int) < (N : Int)) = true := decide_eq_true g1
    have d2 : decide ((N : Int) ≤ (len0 : Int)) = true := decide_eq_true g2
    have d3 : decide (p < N) = true := decide_eq_true hpN
    have d4 : decide (N ≤ len0) = true := decide_eq_true hNl
    go_wp2_with fail
    refine wp_region_any (by kernel_rfl) ?_
    change wpAny _ _ _ _ _ _ _ (World.drew _)
    refine wpAny_take (i := 0) (v := .int .i64 (N : Int)) rfl (by kernel_rfl) (by kernel_rfl) (by kernel_rfl) (fun _ _ _ h => h) (Or.inl ⟨by rfl, by intro w; go_simp⟩) ?_
    go_simp
    refine wpAny_take (i := 1) (v := .int .i64 (p : Int)) rfl (by kernel_rfl) (by kernel_rfl) (by kernel_rfl) (fun _ _ _ h => h) (Or.inl ⟨by rfl, by intro w; go_simp⟩) ?_
    go_simp
    refine wpAny_take (i := 2) (v := .bool true) rfl (by kernel_rfl) (by kernel_rfl) (by kernel_rfl) (fun _ _ _ h => h) (Or.inl ⟨by rfl, by intro w; go_simp⟩) ?_
    go_simp
    refine wpAny_take (i := 3) (v := .bool true) rfl (by kernel_rfl) (by kernel_rfl) (by kernel_rfl) (fun _ _ _ h => h) (Or.inl ⟨by rfl, by intro w; go_simp⟩) ?_
    go_simp
    refine wpAny_take (i := 4) (v := .int .i64 (N : Int)) rfl (by kernel_rfl) (by kernel_rfl) (by kernel_rfl) (fun _ _ _ h => h) (Or.inl ⟨by rfl, by intro w; go_simp⟩) ?_
    go_simp
    refine wpAny_take (i := 5) (v := .slice (some ⟨b, off, none⟩) len0 cap0) rfl (by kernel_rfl) (by kernel_rfl) (by kernel_rfl) (fun _ _ _ h => h) (Or.inl ⟨by rfl, by intro w; go_simp⟩) ?_
    go_simp
    refine wpAny_take (i := 6) (v := .int .i64 (len0 : Int)) rfl (by kernel_rfl) (by kernel_rfl) (by kernel_rfl) (fun _ _ _ h => h) (Or.inl ⟨by rfl, by intro w; go_simp⟩) ?_
    go_simp
    refine wpAny_take (i := 7) (v := .bool true) rfl (by kernel_rfl) (by kernel_rfl) (by kernel_rfl) (fun _ _ _ h => h) (Or.inl ⟨by rfl, by intro w; go_simp⟩) ?_
    go_simp
    refine wpAny_take (i := 8) (v := .bool true) rfl (by kernel_rfl) (by kernel_rfl) (by kernel_rfl) (fun _ _ _ h => h) (Or.inl ⟨by rfl, by intro w; go_simp⟩) ?_
    go_simp
    refine wpAny_take (i := 9) (v := .bool true) rfl (by kernel_rfl) (by kernel_rfl) (by kernel_rfl) (fun _ _ _ h => h) (Or.inl ⟨by rfl, by intro w; go_simp⟩) ?_
    go_simp
    refine wpAny_take (i := 10) (v := .slice (some ⟨b, off, none⟩) len0 cap0) rfl (by kernel_rfl) (by kernel_rfl) (by kernel_rfl) (fun _ _ _ h => h) (Or.inl ⟨by rfl, by intro w; go_simp⟩) ?_
    go_simp
    refine wpAny_take (i := 11) (v := .int .i64 (p : Int)) rfl (by kernel_rfl) (by kernel_rfl) (by kernel_rfl) (fun _ _ _ h => h) (Or.inl ⟨by rfl, by intro w; go_simp⟩) ?_
    go_simp
    refine wpAny_take (i := 12) (v := .int .i64 (N : Int)) rfl (by kernel_rfl) (by kernel_rfl) (by kernel_rfl) (fun _ _ _ h => h) (Or.inl ⟨by rfl, by intro w; go_simp⟩) ?_
    go_simp
    refine wpAny_take (i := 13) (v := .slice (some ⟨b, off + p, none⟩) (N - p) (cap0 - p)) rfl (by kernel_rfl) (by kernel_rfl) (by kernel_rfl) (fun _ _ _ h => h) (Or.inl ⟨by rfl, by intro w; go_simp; rw [if_pos (by omega), if_neg (by omega)]⟩) ?_
    go_simp
    refine wpAny_take (i := 14) (v := .int .u64 X) rfl (by kernel_rfl) (by kernel_rfl) (by kernel_rfl) (fun _ _ _ h => h) (Or.inl ⟨by rfl, by intro w; go_simp⟩) ?_
    go_simp
    refine wpAny_ready (rs := [15]) (by kernel_rfl) (by simp) ?_
    refine AllReady.cons rfl (fun K hK => ?_) AllReady.nil
    go_simp
    refine (appendUvarint_any none 0 0 [] X _ (Bs.nil_ _) hX0 hX1 (by decide)).mono ?_
    rintro e w2 ⟨rfl, ho2, hb2⟩
    simp only [Nat.zero_add, List.nil_append] at ho2 hb2 ⊢
    have hv2 := Bs.own ho2 (vs9_byt X hX0 hX1)
    have hpart2 : Bs w2 (some ⟨b, off + p, none⟩) (N - p) (cap0 - p) (vs 9 X) := Bs.below (Bs.drew hpart1) hb2
    have hbl2 : Below w.heap.size w w2 := (Below.drew hb).trans (hb2.mono hb.size)
    clear ho2 hb2 hpart1 hb
    refine hK _ _ ?_
    clear hK K
    refine wpAny_ready (rs := [16]) (by kernel_rfl) (by simp) ?_
    refine AllReady.cons rfl (fun K hK => ?_) AllReady.nil
    go_simp
    refine (same_any _ _ _ _ _ _ _ _ _ hpart2 hv2 (by omega)).mono ?_
    rintro e w3 ⟨rfl, q, rfl⟩
    rw [decide_eq_true rfl]
    refine hK _ _ ?_
    clear hK K
    refine wpAny_take (i := 17) (v := .bool true) rfl (by kernel_rfl) (by kernel_rfl) (by kernel_rfl) (fun _ _ _ h => h) (Or.inl ⟨by rfl, by intro w; go_simp⟩) ?_
    go_simp
    refine wpAny_take (i := 18) (v := .bool true) rfl (by kernel_rfl) (by kernel_rfl) (by kernel_rfl) (fun _ _ _ h => h) (Or.inl ⟨by rfl, by intro w; go_simp⟩) ?_
    go_simp
    refine wpAny_done (by kernel_rfl) ?_ _
    go_wp2
    go_ret
    exact ⟨rfl, below_drewN hbl2 q⟩
  · have hne : ((dec 0 0 (L.drop p)).2.2 != 0) = true := by simpa using he
    have HB := Lib.hid hbs
    clear hbs he
    go_enter Try.func7, Try.ntmps7
    go_wp2_with fail
    refine (mod_any a1 _ _ hp1 hp2 (by omega) (by omega)).mono ?_
    rintro e w1 ⟨rfl, rfl⟩
    rw [HP.out]
    go_wp2_with fail
    refine (uv_any _ _ _ _ L _ HB.out (by omega)).mono ?_
    rintro e w1 ⟨rfl, rfl⟩
    have hU : (uvD L (p : Int)).2.2 = (dec 0 0 (L.drop p)).2.2 := by
      unfold uvD; rw [if_neg (by rw [HB.out.len]; omega), Int.toNat_natCast]
    have HU := Lib.hid hU
    clear hU
    unfold uvV
    rw [HU.out]
    generalize (dec 0 0 (L.drop p)).2.2 = x at hne
    generalize (uvD L (p : Int)).1 = y
    generalize (uvD L (p : Int)).2.1 = z
    clear HU HB HP
    go_wp2_with fail
    refine (awake_any _).mono ?_
    rintro e w1 ⟨rfl, hb⟩
    go_wp2_with fail
    refine (awake_any _).mono ?_
    rintro e w2 ⟨rfl, hb2⟩
    have hb3 : Below w.heap.size w w2 := hb.trans (hb2.mono hb.size)
    go_wp2
    go_ret
    exact ⟨rfl, hb3⟩

set_option maxRecDepth 100000 in
theorem lifted (os : Os) (started : os.Started) (H : Type) (enc : TypeId × Value → H) :
    ReturnsInHanded {} Try.checked os 7 .any (Rows.wordUvarintIsCanonicalSpec.pre6 enc Try.prog Try.f7 Rows.wordUvarintIsCanonicalRow.domain false) (Rows.wordUvarintIsCanonicalSpec.post enc Try.prog Try.f7 false true false false) := by
  refine returnsInHanded_of_change_sized (C := Try.checked) own started (by kernel_rfl) Try.func7
    (ChangeSpec.witness6 (enc := enc) (C := Try.checked) false ⟨#[], #[.slice none 0 0, .int .i64 0], []⟩ 8 (by kernel_rfl) (by kernel_rfl) (by kernel_rfl) (by kernel_rfl)) ?_
  intro W base args ds gs before hval0 hW hcnd hsz0 _
  have hsz : (DataW.weightsEach Try.prog (Try.f7.params.toList ++ Rows.wordUvarintIsCanonicalSpec.plain.varTypes Try.prog) (ds ++ gs)).all (· ≤ reachBytes) = true := hsz0
  clear hsz0
  have hval : ∀ (j : Nat) t v, Try.f7.params[j]? = some t → args[j]? = some v → Value.okWide Try.prog W .any base t v := hval0
  have hW' := hW
  obtain ⟨p, q, hA0, hV, rfl, hfz, hnd⟩ := hW
  have hA : DataW.TrodAll enc Try.prog W 0 (fun _ => true) true Try.f7.params.toList args.toList ds p := hA0
  rw [Try.params7] at hA hval hsz
  obtain ⟨v0, vs0, d0, ds0, p0, q0, hargs, rfl, rfl, h0, r0⟩ := trodAll_cons hA
  obtain ⟨v1, vs1, d1, ds1, p1, q1, rfl, rfl, rfl, h1, r1⟩ := trodAll_cons r0
  obtain ⟨rfl, rfl, rfl⟩ := trodAll_nil r1
  obtain rfl : args = #[v0, v1] := by cases args; simp_all
  obtain ⟨rfl, rfl⟩ := trodVars_none hV
  obtain ⟨a0, len0, cap0, rfl⟩ := okWide_slice Try.underlying28 (hval 0 28 v0 rfl rfl)
  have k0 := h0
  have lt0 : ∀ x ∈ p0, x.block < W.heap.size := by obtain ⟨m, hm⟩ := k0; exact DataW.trod_lt m _ _ _ hm
  obtain ⟨z0, w0, hr0⟩ : ∃ zs, IsRow .u8 W a0 len0 cap0 zs ∧ cap0 ≤ 140737488351232 := by
    obtain ⟨fuel, hf⟩ := h0
    rcases open_ints Try.underlying28 Try.underlying5 (by kernel_rfl) hf with ⟨hcs, _⟩ | ⟨x, l, c, zs, hcs, _, hl, hm, hz, hx, hcell, hwz⟩
    · simp [Value.cells] at hcs
      obtain ⟨rfl, rfl, rfl⟩ := hcs
      exact ⟨[], .inl ⟨rfl, rfl, rfl, rfl⟩, by omega⟩
    · simp [Value.cells] at hcs
      obtain ⟨rfl, rfl, rfl⟩ := hcs
      have hd := (Prod.mk.inj hx).1
      have hs := sized_slice hsz (j := 0) (t := 28) (e := 5) rfl (by rw [hd]; rfl) Try.underlying28
      rw [byte5] at hs
      have hz2 : zs.length = cap0 := by simpa using hz
      simp only [lits, List.length_map, List.length_take, List.length_drop, reachBytes] at hs
      exact ⟨zs, .inr ⟨_, rfl, hl, hm, hz2, hcell, hwz⟩, by omega⟩
  obtain ⟨a1, rfl, rfl, rfl, w1⟩ := open_int Try.underlying3 (hval 1 3 v1 rfl rfl) h1
  clear hA0 hval0
  refine (walk a0 len0 cap0 z0 a1 W w0 w1 hr0).mono fun e W' ⟨he, bel⟩ => ?_
  subst he
  exact ⟨_, rfl, _, _, _, [], _, [], hW', trodAll_mk1 (shut_bool Try.underlying4 _), (trodAll_cons_mk (Below.trod laidOut (by kernel_rfl) (of_decide_eq_true (by kernel_rfl)) k0 bel lt0) (trodAll_cons_mk (shut_int Try.underlying3 w1) trodAll_mk0)), rfl, bel.frame _, fun h => by cases h⟩

theorem over : Rows.wordUvarintIsCanonicalRow.holds Try.pinned (OpenSpec.ofChange Rows.wordUvarintIsCanonicalSpec) :=
  OpenClaim.holds_of_wide 7 Try.f7 rfl rfl rfl rfl rfl rfl rfl ⟨rfl, rfl, rfl, rfl, rfl⟩ rfl rfl rfl rfl rfl (by kernel_rfl) Try.func7 (by kernel_rfl)
    (of_decide_eq_true (by kernel_rfl)) (by unfold Func.isWrapper; first | (rw [if_pos (by decide +kernel)]; kernel_rfl) | (rw [if_neg (by decide +kernel)]; exact ⟨rfl, rfl⟩))
    (fun os started H enc _ => lifted os started H enc)

theorem proved : Rows.WordUvarintIsCanonicalSaid := over
end Go.Proofs.Ytcdajfdagdiodaa.wordUvarintIsCanonical
