/-
  For every slice of 1 to 600 bytes, every index brought into its range and every bit: the slice with that bit turned has another checksum; the example of the chapter holds, for other slices too. No condition.
-/
import Derived.Test.YtdaenfhedepiaaaRows
import Derived.Test.YtdaenfhedepiaaaAwake2
import Derived.WalkKit
import Derived.ProofKit
import Derived.OpenShut
import Derived.ShutString
import Derived.ChangeOld
import Derived.Below
import Derived.SizedLaws
import Derived.Deep.RegionWith
set_option linter.unusedSimpArgs false
namespace Go.Proofs.Ytdaenfhedepiaaa.frameChecksumDetectsBits
open Go.ChangeShapes Go.WideShapes Go.ChangeAt Go.RowKit
open Go.ChangeMaps (open_string shut_string)
set_option linter.unusedVariables false

theorem own : ownKnob Try.prog.godebug = none := by kernel_rfl
theorem laidOut : laidOutB Try.prog = true := by kernel_rfl

def IsRow (k : IntKind) (w : World) (a : Option Addr) (len cap : Nat) (zs : List Int) : Prop :=
  (a = none ∧ len = 0 ∧ cap = 0 ∧ zs = []) ∨
  ∃ x, a = some x ∧ len ≤ cap ∧ cap ≤ maxLen ∧ zs.length = cap ∧ (∀ i, i < zs.length → w.cell? (x.add i) = some (.int k (zs.getD i 0))) ∧ ∀ n ∈ zs, (Lit.int k n).wf = true

set_option maxHeartbeats 1000000 in
theorem walk (a0 : Option Addr) (len0 cap0 : Nat) (z0 : List Int) (a1 : Int) (a2 : Int) (w : World) (w0 : IsRow .u8 w a0 len0 cap0 z0) (w1 : (Lit.int .i64 a1).wf = true) (w2 : (Lit.int .i64 a2).wf = true) (hr0 : cap0 ≤ 140737488351232) :
    Calls Try.prog 6 #[.slice a0 len0 cap0, .int .i64 a1, .int .i64 a2] w fun e w' => e = .returned (.bool true) ∧ Below w.heap.size w w' := by
  have hbs := bs_of_row w0
  obtain ⟨hp1, hp2⟩ := wf_i64 w1
  obtain ⟨hq1, hq2⟩ := wf_i64 w2
  generalize z0.take len0 = L at hbs
  clear w0
  by_cases hl0 : len0 = 0
  · subst hl0
    clear hbs
    go_enter Try.func6, Try.ntmps6
    go_wp2_with fail
    refine (awake_any _).mono ?_
    rintro e w1 ⟨rfl, hb⟩
    go_wp2
    go_ret
    exact ⟨rfl, hb⟩
  · have hne : ((len0 : Int) == 0) = false := by simp; omega
    by_cases hlen : 600 < len0
    · clear hbs hl0
      have hle : (600 : Int) < (len0 : Int) := by omega
      go_enter Try.func6, Try.ntmps6
      go_wp2_with fail
      refine (awake_any _).mono ?_
      rintro e w1 ⟨rfl, hb⟩
      go_wp2
      go_ret
      exact ⟨rfl, hb⟩
    · have hle : (len0 : Int) ≤ 600 := by omega
      have hl1 : 1 ≤ len0 := by omega
      clear hl0 hlen
      have HL := Lib.hid hbs.len
      go_enter Try.func6, Try.ntmps6
      go_wp2_with fail
      refine (join_any _ none _ _ 0 0 L [] _ hbs (Bs.nil_ _) (by omega)).mono ?_
      rintro e w1 ⟨rfl, ho, hb⟩
      rw [List.append_nil, Nat.add_zero] at ho
      rw [Nat.add_zero]
      have h0 := hbs
      have h1 := hbs.below hb
      clear hbs
      go_wp2_with fail
      refine (mod_any a1 _ _ hp1 hp2 (by omega) (by omega)).mono ?_
      rintro e w2 ⟨rfl, rfl⟩
      obtain ⟨i, hi⟩ := Int.eq_ofNat_of_zero_le (Int.emod_nonneg a1 (b := (len0 : Int)) (by omega))
      have hi2 := Int.emod_lt_of_pos a1 (b := (len0 : Int)) (by omega)
      rw [hi] at hi2 ⊢
      clear hi
      have hm1 := Int.emod_nonneg a2 (b := 8) (by omega)
      have hm2 := Int.emod_lt_of_pos a2 (b := 8) (by omega)
      have hz := h1.byt.get i
      rw [List.getD_eq_getElem?_getD] at hz
      have hcl : w1.cell? ⟨w.heap.size, i, none⟩ = some (.int .u8 (L[i]?.getD 0)) := by
        rw [ho.cellAt i (by omega)]
        unfold U8
        rw [List.getElem?_map, List.getElem?_eq_getElem (by rw [HL.out]; omega)]
        rfl
      have hf := ho.frozenAt i
      go_wp2_with fail
      go_region_with (go_at_call 18; refine (mod_any a2 8 _ hq1 hq2 (by decide) (by decide)).mono ?_; rintro e w' ⟨rfl, rfl⟩)
      all_goals
        have hbt := bit_turn (L[i]?.getD 0) (a2 % 8) hz.1 hz.2 hm1 hm2
        generalize bits BinOp.xor IntKind.u8 (L[i]?.getD 0) (IntKind.u8.wrap (2 ^ min (IntKind.u64.wrap (a2 % 8)).toNat 8)) = x at hbt
        obtain ⟨hx0, hx1, hx2⟩ := hbt
        have HS := Lib.hid (cs_set (L := L) (i := i) (x := x) (by rw [HL.out]; omega) h1.byt hx0 hx1 hx2)
        have ho2 := (ho.stored i (Value.int IntKind.u8 x)).1
        rw [u8_set] at ho2
        have hby : Byt (L.set i x) := fun z hz => by
          rcases List.mem_or_eq_of_mem_set hz with hz | rfl
          · exact h1.byt z hz
          · exact ⟨hx0, hx1⟩
        have hc2 := Bs.drew (Bs.own ho2 hby)
        have hb2 : Below w.heap.size w (w1.setCell ⟨w.heap.size, i, none⟩ (Value.int IntKind.u8 x)).drew := (hb.setCell (Nat.le_refl _) _).drew
        have hg2 := Bs.drew (h0.below (w' := w1.setCell ⟨w.heap.size, i, none⟩ (Value.int IntKind.u8 x)) (hb.setCell (Nat.le_refl _) _))
        clear ho ho2 hb h1 h0 hcl hf hx0 hx1 hx2
        generalize L.set i x = M at hc2 HS
        generalize (w1.setCell ⟨w.heap.size, i, none⟩ (Value.int IntKind.u8 x)).drew = w2 at hc2 hb2 hg2 ⊢
        go_wp2_with fail
        refine (awake_any _).mono ?_
        rintro e w3 ⟨rfl, hb3⟩
        have hc3 := hc2.below hb3
        have hg3 := hg2.below hb3
        have hbl3 : Below w.heap.size w w3 := hb2.trans (hb3.mono hb2.size)
        clear hc2 hg2 hb2 hb3
        go_wp2_with fail
        refine (checksum_ok _ _ _ L _ hg3 (by omega)).mono ?_
        rintro e w4 ⟨rfl, hb4⟩
        have hc4 := hc3.below hb4
        have hbl4 : Below w.heap.size w w4 := hbl3.trans (hb4.mono hbl3.size)
        clear hc3 hg3 hbl3 hb4
        go_wp2_with fail
        refine (checksum_ok _ _ _ M _ hc4 (by omega)).mono ?_
        rintro e w5 ⟨rfl, hb5⟩
        have hbl5 : Below w.heap.size w w5 := hbl4.trans (hb5.mono hbl4.size)
        have hne2 : (cs 0 L != cs 0 M) = true := by simpa using HS.out
        clear HS hc4 hbl4 hb5
        generalize cs 0 L = s0 at hne2
        generalize cs 0 M = s1 at hne2
        go_wp2
        go_ret
        exact ⟨rfl, hbl5⟩

set_option maxRecDepth 100000 in
theorem lifted (os : Os) (started : os.Started) (H : Type) (enc : TypeId × Value → H) :
    ReturnsInHanded {} Try.checked os 6 .any (Rows.frameChecksumDetectsBitsSpec.pre6 enc Try.prog Try.f6 Rows.frameChecksumDetectsBitsRow.domain false) (Rows.frameChecksumDetectsBitsSpec.post enc Try.prog Try.f6 false true false false) := by
  refine returnsInHanded_of_change_sized (C := Try.checked) own started (by kernel_rfl) Try.func6
    (ChangeSpec.witness6 (enc := enc) (C := Try.checked) false ⟨#[], #[.slice none 0 0, .int .i64 0, .int .i64 0], []⟩ 8 (by kernel_rfl) (by kernel_rfl) (by kernel_rfl) (by kernel_rfl)) ?_
  intro W base args ds gs before hval0 hW hcnd hsz0 _
  have hsz : (DataW.weightsEach Try.prog (Try.f6.params.toList ++ Rows.frameChecksumDetectsBitsSpec.plain.varTypes Try.prog) (ds ++ gs)).all (· ≤ reachBytes) = true := hsz0
  clear hsz0
  have hval : ∀ (j : Nat) t v, Try.f6.params[j]? = some t → args[j]? = some v → Value.okWide Try.prog W .any base t v := hval0
  have hW' := hW
  obtain ⟨p, q, hA0, hV, rfl, hfz, hnd⟩ := hW
  have hA : DataW.TrodAll enc Try.prog W 0 (fun _ => true) true Try.f6.params.toList args.toList ds p := hA0
  rw [Try.params6] at hA hval hsz
  obtain ⟨v0, vs0, d0, ds0, p0, q0, hargs, rfl, rfl, h0, r0⟩ := trodAll_cons hA
  obtain ⟨v1, vs1, d1, ds1, p1, q1, rfl, rfl, rfl, h1, r1⟩ := trodAll_cons r0
  obtain ⟨v2, vs2, d2, ds2, p2, q2, rfl, rfl, rfl, h2, r2⟩ := trodAll_cons r1
  obtain ⟨rfl, rfl, rfl⟩ := trodAll_nil r2
  obtain rfl : args = #[v0, v1, v2] := by cases args; simp_all
  obtain ⟨rfl, rfl⟩ := trodVars_none hV
  obtain ⟨a0, len0, cap0, rfl⟩ := okWide_slice Try.underlying22 (hval 0 22 v0 rfl rfl)
  have k0 := h0
  have lt0 : ∀ x ∈ p0, x.block < W.heap.size := by obtain ⟨m, hm⟩ := k0; exact DataW.trod_lt m _ _ _ hm
  obtain ⟨z0, w0, hr0⟩ : ∃ zs, IsRow .u8 W a0 len0 cap0 zs ∧ cap0 ≤ 140737488351232 := by
    obtain ⟨fuel, hf⟩ := h0
    rcases open_ints Try.underlying22 Try.underlying5 (by kernel_rfl) hf with ⟨hcs, _⟩ | ⟨x, l, c, zs, hcs, _, hl, hm, hz, hx, hcell, hwz⟩
    · simp [Value.cells] at hcs
      obtain ⟨rfl, rfl, rfl⟩ := hcs
      exact ⟨[], .inl ⟨rfl, rfl, rfl, rfl⟩, by omega⟩
    · simp [Value.cells] at hcs
      obtain ⟨rfl, rfl, rfl⟩ := hcs
      have hd := (Prod.mk.inj hx).1
      have hs := sized_slice hsz (j := 0) (t := 22) (e := 5) rfl (by rw [hd]; rfl) Try.underlying22
      rw [byte5] at hs
      have hz2 : zs.length = cap0 := by simpa using hz
      simp only [lits, List.length_map, List.length_take, List.length_drop, reachBytes] at hs
      exact ⟨zs, .inr ⟨_, rfl, hl, hm, hz2, hcell, hwz⟩, by omega⟩
  obtain ⟨a1, rfl, rfl, rfl, w1⟩ := open_int Try.underlying3 (hval 1 3 v1 rfl rfl) h1
  obtain ⟨a2, rfl, rfl, rfl, w2⟩ := open_int Try.underlying3 (hval 2 3 v2 rfl rfl) h2
  clear hA0 hval0
  refine (walk a0 len0 cap0 z0 a1 a2 W w0 w1 w2 hr0).mono fun e W' ⟨he, bel⟩ => ?_
  subst he
  exact ⟨_, rfl, _, _, _, [], _, [], hW', trodAll_mk1 (shut_bool Try.underlying4 _), (trodAll_cons_mk (Below.trod laidOut (by kernel_rfl) (of_decide_eq_true (by kernel_rfl)) k0 bel lt0) (trodAll_cons_mk (shut_int Try.underlying3 w1) (trodAll_cons_mk (shut_int Try.underlying3 w2) trodAll_mk0))), rfl, bel.frame _, fun h => by cases h⟩

theorem over : Rows.frameChecksumDetectsBitsRow.holds Try.pinned (OpenSpec.ofChange Rows.frameChecksumDetectsBitsSpec) :=
  OpenClaim.holds_of_wide 6 Try.f6 rfl rfl rfl rfl rfl rfl rfl ⟨rfl, rfl, rfl, rfl, rfl⟩ rfl rfl rfl rfl rfl (by kernel_rfl) Try.func6 (by kernel_rfl)
    (of_decide_eq_true (by kernel_rfl)) (by unfold Func.isWrapper; first | (rw [if_pos (by decide +kernel)]; kernel_rfl) | (rw [if_neg (by decide +kernel)]; exact ⟨rfl, rfl⟩))
    (fun os started H enc _ => lifted os started H enc)

theorem proved : Rows.FrameChecksumDetectsBitsSaid := over
end Go.Proofs.Ytdaenfhedepiaaa.frameChecksumDetectsBits
