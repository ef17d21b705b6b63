/-
  For all three slices, cut to one length of at most 300: the exclusive or of their checksums is the checksum of their exclusive or; the example of the chapter holds. No condition.
-/
import Derived.Test.YtdaenfhedepiaaaRows
import Derived.Test.YtdaenfhedepiaaaAwake2
import Derived.Test.YtdaenfhedepiaaaMin4
import Derived.WalkKit
import Derived.ProofKit
import Derived.OpenShut
import Derived.ShutString
import Derived.ChangeOld
import Derived.Below
import Derived.SizedLaws
import Derived.Deep.RegionWith
set_option linter.unusedSimpArgs false
namespace Go.Proofs.Ytdaenfhedepiaaa.frameChecksumIsAffine
open Go.ChangeShapes Go.WideShapes Go.ChangeAt Go.RowKit
open Go.ChangeMaps (open_string shut_string)
set_option linter.unusedVariables false

theorem own : ownKnob Try.prog.godebug = none := by kernel_rfl
theorem laidOut : laidOutB Try.prog = true := by kernel_rfl

def IsRow (k : IntKind) (w : World) (a : Option Addr) (len cap : Nat) (zs : List Int) : Prop :=
  (a = none ∧ len = 0 ∧ cap = 0 ∧ zs = []) ∨
  ∃ x, a = some x ∧ len ≤ cap ∧ cap ≤ maxLen ∧ zs.length = cap ∧ (∀ i, i < zs.length → w.cell? (x.add i) = some (.int k (zs.getD i 0))) ∧ ∀ n ∈ zs, (Lit.int k n).wf = true

set_option maxHeartbeats 2000000 in
theorem walk (a0 : Option Addr) (len0 cap0 : Nat) (z0 : List Int) (a1 : Option Addr) (len1 cap1 : Nat) (z1 : List Int) (a2 : Option Addr) (len2 cap2 : Nat) (z2 : List Int) (w : World) (w0 : IsRow .u8 w a0 len0 cap0 z0) (w1 : IsRow .u8 w a1 len1 cap1 z1) (w2 : IsRow .u8 w a2 len2 cap2 z2) (hr0 : cap0 ≤ 140737488351232) (hr1 : cap1 ≤ 140737488351232) (hr2 : cap2 ≤ 140737488351232) :
    Calls Try.prog 5 #[.slice a0 len0 cap0, .slice a1 len1 cap1, .slice a2 len2 cap2] w fun e w' => e = .returned (.bool true) ∧ Below w.heap.size w w' := by
  have hbs := bs_of_row w0
  have hbt := bs_of_row w1
  have hbu := bs_of_row w2
  generalize z0.take len0 = L at hbs
  generalize z1.take len1 = T at hbt
  generalize z2.take len2 = V at hbu
  clear w0 w1 w2
  obtain ⟨i0, hi, hz0, hz1, hz2⟩ := info_parts byteInfo
  obtain ⟨N, hN0, hN1, hN2, hN3, hmin⟩ := min4 len0 len1 len2
  have hc0 : len0 ≤ cap0 := hbs.2.1
  have hc1 : len1 ≤ cap1 := hbt.2.1
  have hc2 : len2 ≤ cap2 := hbu.2.1
  have hm := fun w => hmin w #[3, 3, 3, 3] 3
  clear hmin
  go_enter Try.func5, Try.ntmps5
  go_wp2_with (at_make; refine wpList_make_full _ rfl _ _ 22 rfl w.heap.size 5 i0 (.int .u8 0) 1 Try.underlying22 hi hz0 hz1 _ _ _ _ N rfl rfl rfl rfl ?b2 ?b3 (Nat.le_refl _) ?_)
  case b2 => rw [hz2]; omega
  case b3 => unfold maxLen; omega
  clear hm
  intro w0 hown0 hgrow0
  have hown1 : w0.ownsRow w.heap.size 5 1 (.slice (some ⟨w.heap.size, 0, none⟩) N N) N (U8 (List.replicate N 0)) := by
    have e : (madeCells #[Value.int .u8 0] N).toList = U8 (List.replicate N 0) := by
      rw [toList_madeCells_one]; simp [U8]
    rw [e] at hown0; exact hown0
  clear hown0
  have hb0 : Below w.heap.size w w0 := (Below.refl _ _).grown hgrow0 (Nat.le_refl _) (fun k h => by cases h)
  clear hgrow0
  have HL := Lib.hid hbs
  have HT := Lib.hid hbt
  have HU := Lib.hid hbu
  clear hbs hbt hbu
  go_wp2
  go_loopw [9] (fun i wr => ∃ (k : Nat) (P : List Int), k ≤ N ∧ i = .int .i64 k ∧ (∀ j, j < k → P[j]? = some (xor3z L T V j)) ∧ Byt P ∧ P.length = N ∧
      wr.ownsRow w.heap.size 5 1 (.slice (some ⟨w.heap.size, 0, none⟩) N N) N (U8 P) ∧ Below w.heap.size w wr)
    (fun i _ => N - (intOf i).toNat)
  case atStart => exact ⟨0, List.replicate N 0, by omega, rfl, by omega, fun z hz => by (have := List.eq_of_mem_replicate hz; omega), by simp, hown1, hb0⟩
  case round =>
    obtain ⟨k, P, hk, rfl, hP, hPb, hPl, hown, hbl⟩ := hrel
    have HP := Lib.hid hP
    have HPL := Lib.hid hPl
    clear hP hown1 hPl
    by_cases hlt : k < N
    · obtain ⟨b0, o0, rfl, hb0', hcell0⟩ := (HL.out.below hbl).at_ (by omega)
      obtain ⟨b1, o1, rfl, hb1', hcell1⟩ := (HT.out.below hbl).at_ (by omega)
      obtain ⟨b2, o2, rfl, hb2', hcell2⟩ := (HU.out.below hbl).at_ (by omega)
      have hx := hcell0 k (by omega)
      have hy := hcell1 k (by omega)
      have hz := hcell2 k (by omega)
      have hxb := HL.out.byt.get k
      have hyb := HT.out.byt.get k
      have hzb := HU.out.byt.get k
      have HX : Hid (xor3z L T V k = bits .xor .u8 (bits .xor .u8 (L.getD k 0) (T.getD k 0)) (V.getD k 0)) := rfl
      generalize L.getD k 0 = x at hx hxb HX
      generalize T.getD k 0 = y at hy hyb HX
      generalize V.getD k 0 = z at hz hzb HX
      clear hcell0 hcell1 hcell2
      have hf := hown.frozenAt k
      have hcl : wr.cell? ⟨w.heap.size, k, none⟩ = some (.int .u8 (P[k]?.getD 0)) := by
        rw [hown.cellAt k (by omega)]
        unfold U8
        rw [List.getElem?_map, List.getElem?_eq_getElem (by rw [HPL.out]; omega)]
        rfl
      generalize P[k]?.getD 0 = p0 at hcl
      have hkN : (k : Int) < (N : Int) := by omega
      have hk0 : (k : Int) < (len0 : Int) := by omega
      have hk1 : (k : Int) < (len1 : Int) := by omega
      have hk2 : (k : Int) < (len2 : Int) := by omega
      go_wp2
      go_region
      have hb8 := xor8_bd (xor8_bd hxb hyb) hzb
      generalize hv : bits BinOp.xor IntKind.u8 (bits BinOp.xor IntKind.u8 x y) z = v at hb8 ⊢
      have HV := Lib.hid hv
      clear hv
      have hs := (hown.stored k (Value.int IntKind.u8 v)).1
      rw [u8_set] at hs
      have hs2 : (wr.setCell ⟨w.heap.size, k, none⟩ (Value.int IntKind.u8 v)).drew.ownsRow w.heap.size 5 1 (.slice (some ⟨w.heap.size, 0, none⟩) N N) N (U8 (P.set k v)) := hs
      have hb2 : Below w.heap.size w (wr.setCell ⟨w.heap.size, k, none⟩ (Value.int IntKind.u8 v)).drew := (hbl.setCell (Nat.le_refl _) _).drew
      generalize (wr.setCell ⟨w.heap.size, k, none⟩ (Value.int IntKind.u8 v)).drew = w2 at hs2 hb2 ⊢
      clear hs hown hbl hf hcl
      go_wp2
      refine ⟨⟨k + 1, P.set k v, by omega, by go_num, fun j hj => ?_, fun z hz => ?_, by rw [List.length_set]; exact HPL.out, hs2, hb2⟩, by simp [intOf]; omega⟩
      · by_cases hjk : j = k
        · subst hjk
          rw [List.getElem?_set_self (by rw [HPL.out]; omega), HX.out, HV.out]
        · rw [List.getElem?_set_ne (by omega)]
          exact HP.out j (by omega)
      · rcases List.mem_or_eq_of_mem_set hz with hz | rfl
        · exact hPb z hz
        · exact hb8
    · obtain rfl : k = N := by omega
      have hrd := Bs.own hown hPb
      go_wp2_with fail
      refine wp_region_any (by kernel_rfl) ?_
      change wpAny _ _ _ _ _ _ _ (World.drew _)
      refine wpAny_ready (rs := [0]) (by kernel_rfl) (by simp) ?_
      refine AllReady.cons rfl (fun K hK => ?_) AllReady.nil
      go_simp
      refine (awake_any _).mono ?_
      rintro e w3 ⟨rfl, hb3⟩
      refine hK _ _ ?_
      clear hK K
      refine wpAny_take (i := 1) (v := .bool true) rfl (by kernel_rfl) (by kernel_rfl) (by kernel_rfl) (fun _ _ _ h => h) (Or.inl ⟨by rfl, by intro w; go_simp⟩) ?_
      go_simp
      refine wpAny_take (i := 2) (v := .slice a0 len0 cap0) rfl (by kernel_rfl) (by kernel_rfl) (by kernel_rfl) (fun _ _ _ h => h) (Or.inl ⟨by rfl, by intro w; go_simp⟩) ?_
      go_simp
      refine wpAny_take (i := 3) (v := .int .i64 (k : Int)) rfl (by kernel_rfl) (by kernel_rfl) (by kernel_rfl) (fun _ _ _ h => h) (Or.inl ⟨by rfl, by intro w; go_simp⟩) ?_
      go_simp
      refine wpAny_take (i := 4) (v := .slice a0 k cap0) rfl (by kernel_rfl) (by kernel_rfl) (by kernel_rfl) (fun _ _ _ h => h) (Or.inl ⟨by rfl, by intro w; go_simp <;> (intro hh; exfalso; omega)⟩) ?_
      go_simp
      refine wpAny_take (i := 6) (v := .slice a1 len1 cap1) rfl (by kernel_rfl) (by kernel_rfl) (by kernel_rfl) (fun _ _ _ h => h) (Or.inl ⟨by rfl, by intro w; go_simp <;> (intro hh; exfalso; omega)⟩) ?_
      go_simp
      refine wpAny_take (i := 7) (v := .int .i64 (k : Int)) rfl (by kernel_rfl) (by kernel_rfl) (by kernel_rfl) (fun _ _ _ h => h) (Or.inl ⟨by rfl, by intro w; go_simp <;> (intro hh; exfalso; omega)⟩) ?_
      go_simp
      refine wpAny_take (i := 8) (v := .slice a1 k cap1) rfl (by kernel_rfl) (by kernel_rfl) (by kernel_rfl) (fun _ _ _ h => h) (Or.inl ⟨by rfl, by intro w; go_simp <;> (intro hh; exfalso; omega)⟩) ?_
      go_simp
      refine wpAny_take (i := 11) (v := .slice a2 len2 cap2) rfl (by kernel_rfl) (by kernel_rfl) (by kernel_rfl) (fun _ _ _ h => h) (Or.inl ⟨by rfl, by intro w; go_simp <;> (intro hh; exfalso; omega)⟩) ?_
      go_simp
      refine wpAny_take (i := 12) (v := .int .i64 (k : Int)) rfl (by kernel_rfl) (by kernel_rfl) (by kernel_rfl) (fun _ _ _ h => h) (Or.inl ⟨by rfl, by intro w; go_simp <;> (intro hh; exfalso; omega)⟩) ?_
      go_simp
      refine wpAny_take (i := 13) (v := .slice a2 k cap2) rfl (by kernel_rfl) (by kernel_rfl) (by kernel_rfl) (fun _ _ _ h => h) (Or.inl ⟨by rfl, by intro w; go_simp <;> (intro hh; exfalso; omega)⟩) ?_
      go_simp
      refine wpAny_take (i := 16) (v := .slice (some ⟨w.heap.size, 0, none⟩) k k) rfl (by kernel_rfl) (by kernel_rfl) (by kernel_rfl) (fun _ _ _ h => h) (Or.inl ⟨by rfl, by intro w; go_simp <;> (intro hh; exfalso; omega)⟩) ?_
      go_simp
      have hW : Below w.heap.size w w3 := hbl.drew.trans (hb3.mono hbl.size)
      have hB0 := ((Bs.drew (HL.out.below hbl)).below hb3).pre (k := k) (by omega)
      have hB1 := ((Bs.drew (HT.out.below hbl)).below hb3).pre (k := k) (by omega)
      have hB2 := ((Bs.drew (HU.out.below hbl)).below hb3).pre (k := k) (by omega)
      have hBP := (Bs.drew hrd).below hb3
      have HA := Lib.hid (cs_affine hB0.byt hB1.byt hB2.byt hB0.len hB1.len hB2.len hBP.len (fun j hj => by
        rw [HP.out j hj]
        unfold xor3z
        rw [take_getD hj, take_getD hj, take_getD hj]))
      clear hb3 hbl hrd hown HP
      generalize hs0 : cs 0 (L.take k) = s0 at HA
      generalize hs1 : cs 0 (T.take k) = s1 at HA
      generalize hs2 : cs 0 (V.take k) = s2 at HA
      generalize hs3 : cs 0 P = s3 at HA
      have H0 := Lib.hid hs0
      have H1 := Lib.hid hs1
      have H2 := Lib.hid hs2
      have H3 := Lib.hid hs3
      clear hs0 hs1 hs2 hs3
      refine wpAny_ready (rs := [5]) (by kernel_rfl) (by simp) ?_
      refine AllReady.cons rfl (fun K hK => ?_) AllReady.nil
      go_simp
      refine (checksum_ok _ _ _ _ _ hB0 (by omega)).mono ?_
      rintro e V1 ⟨rfl, hv⟩
      rw [H0.out]
      refine hK _ _ ?_
      clear hK K
      replace hB1 := hB1.below hv
      replace hB2 := hB2.below hv
      replace hBP := hBP.below hv
      replace hW := hW.trans (hv.mono hW.size)
      clear hv
      refine wpAny_ready (rs := [9]) (by kernel_rfl) (by simp) ?_
      refine AllReady.cons rfl (fun K hK => ?_) AllReady.nil
      go_simp
      refine (checksum_ok _ _ _ _ _ hB1 (by omega)).mono ?_
      rintro e V2 ⟨rfl, hv⟩
      rw [H1.out]
      refine hK _ _ ?_
      clear hK K
      replace hB2 := hB2.below hv
      replace hBP := hBP.below hv
      replace hW := hW.trans (hv.mono hW.size)
      clear hv
      refine wpAny_take (i := 10) (v := .int .u32 (bits .xor .u32 s0 s1)) rfl (by kernel_rfl) (by kernel_rfl) (by kernel_rfl) (fun _ _ _ h => h) (Or.inl ⟨by rfl, by intro w; go_simp <;> (intro hh; exfalso; omega)⟩) ?_
      go_simp
      refine wpAny_ready (rs := [14]) (by kernel_rfl) (by simp) ?_
      refine AllReady.cons rfl (fun K hK => ?_) AllReady.nil
      go_simp
      refine (checksum_ok _ _ _ _ _ hB2 (by omega)).mono ?_
      rintro e V3 ⟨rfl, hv⟩
      rw [H2.out]
      refine hK _ _ ?_
      clear hK K
      replace hBP := hBP.below hv
      replace hW := hW.trans (hv.mono hW.size)
      clear hv
      refine wpAny_take (i := 15) (v := .int .u32 (bits .xor .u32 (bits .xor .u32 s0 s1) s2)) rfl (by kernel_rfl) (by kernel_rfl) (by kernel_rfl) (fun _ _ _ h => h) (Or.inl ⟨by rfl, by intro w; go_simp <;> (intro hh; exfalso; omega)⟩) ?_
      go_simp
      rw [HA.out]
      refine wpAny_ready (rs := [17]) (by kernel_rfl) (by simp) ?_
      refine AllReady.cons rfl (fun K hK => ?_) AllReady.nil
      go_simp
      refine (checksum_ok _ _ _ _ _ hBP (by omega)).mono ?_
      rintro e V4 ⟨rfl, hv⟩
      rw [H3.out]
      refine hK _ _ ?_
      clear hK K
      replace hW := hW.trans (hv.mono hW.size)
      clear hv
      refine wpAny_take (i := 18) (v := .bool true) rfl (by kernel_rfl) (by kernel_rfl) (by kernel_rfl) (fun _ _ _ h => h) (Or.inl ⟨by rfl, by intro w; go_simp <;> (intro hh; exfalso; omega)⟩) ?_
      go_simp
      refine wpAny_take (i := 19) (v := .bool true) rfl (by kernel_rfl) (by kernel_rfl) (by kernel_rfl) (fun _ _ _ h => h) (Or.inl ⟨by rfl, by intro w; go_simp <;> (intro hh; exfalso; omega)⟩) ?_
      go_simp
      refine wpAny_take (i := 20) (v := .bool true) rfl (by kernel_rfl) (by kernel_rfl) (by kernel_rfl) (fun _ _ _ h => h) (Or.inl ⟨by rfl, by intro w; go_simp <;> (intro hh; exfalso; omega)⟩) ?_
      go_simp
      refine wpAny_done (by kernel_rfl) ?_ _
      go_wp2
      go_ret
      exact ⟨rfl, hW⟩

set_option maxRecDepth 100000 in
theorem lifted (os : Os) (started : os.Started) (H : Type) (enc : TypeId × Value → H) :
    ReturnsInHanded {} Try.checked os 5 .any (Rows.frameChecksumIsAffineSpec.pre6 enc Try.prog Try.f5 Rows.frameChecksumIsAffineRow.domain false) (Rows.frameChecksumIsAffineSpec.post enc Try.prog Try.f5 false true false false) := by
  refine returnsInHanded_of_change_sized (C := Try.checked) own started (by kernel_rfl) Try.func5
    (ChangeSpec.witness6 (enc := enc) (C := Try.checked) false ⟨#[], #[.slice none 0 0, .slice none 0 0, .slice none 0 0], []⟩ 8 (by kernel_rfl) (by kernel_rfl) (by kernel_rfl) (by kernel_rfl)) ?_
  intro W base args ds gs before hval0 hW hcnd hsz0 _
  have hsz : (DataW.weightsEach Try.prog (Try.f5.params.toList ++ Rows.frameChecksumIsAffineSpec.plain.varTypes Try.prog) (ds ++ gs)).all (· ≤ reachBytes) = true := hsz0
  clear hsz0
  have hval : ∀ (j : Nat) t v, Try.f5.params[j]? = some t → args[j]? = some v → Value.okWide Try.prog W .any base t v := hval0
  have hW' := hW
  obtain ⟨p, q, hA0, hV, rfl, hfz, hnd⟩ := hW
  have hA : DataW.TrodAll enc Try.prog W 0 (fun _ => true) true Try.f5.params.toList args.toList ds p := hA0
  rw [Try.params5] at hA hval hsz
  obtain ⟨v0, vs0, d0, ds0, p0, q0, hargs, rfl, rfl, h0, r0⟩ := trodAll_cons hA
  obtain ⟨v1, vs1, d1, ds1, p1, q1, rfl, rfl, rfl, h1, r1⟩ := trodAll_cons r0
  obtain ⟨v2, vs2, d2, ds2, p2, q2, rfl, rfl, rfl, h2, r2⟩ := trodAll_cons r1
  obtain ⟨rfl, rfl, rfl⟩ := trodAll_nil r2
  obtain rfl : args = #[v0, v1, v2] := by cases args; simp_all
  obtain ⟨rfl, rfl⟩ := trodVars_none hV
  obtain ⟨a0, len0, cap0, rfl⟩ := okWide_slice Try.underlying22 (hval 0 22 v0 rfl rfl)
  have k0 := h0
  have lt0 : ∀ x ∈ p0, x.block < W.heap.size := by obtain ⟨m, hm⟩ := k0; exact DataW.trod_lt m _ _ _ hm
  obtain ⟨z0, w0, hr0⟩ : ∃ zs, IsRow .u8 W a0 len0 cap0 zs ∧ cap0 ≤ 140737488351232 := by
    obtain ⟨fuel, hf⟩ := h0
    rcases open_ints Try.underlying22 Try.underlying5 (by kernel_rfl) hf with ⟨hcs, _⟩ | ⟨x, l, c, zs, hcs, _, hl, hm, hz, hx, hcell, hwz⟩
    · simp [Value.cells] at hcs
      obtain ⟨rfl, rfl, rfl⟩ := hcs
      exact ⟨[], .inl ⟨rfl, rfl, rfl, rfl⟩, by omega⟩
    · simp [Value.cells] at hcs
      obtain ⟨rfl, rfl, rfl⟩ := hcs
      have hd := (Prod.mk.inj hx).1
      have hs := sized_slice hsz (j := 0) (t := 22) (e := 5) rfl (by rw [hd]; rfl) Try.underlying22
      rw [byte5] at hs
      have hz2 : zs.length = cap0 := by simpa using hz
      simp only [lits, List.length_map, List.length_take, List.length_drop, reachBytes] at hs
      exact ⟨zs, .inr ⟨_, rfl, hl, hm, hz2, hcell, hwz⟩, by omega⟩
  obtain ⟨a1, len1, cap1, rfl⟩ := okWide_slice Try.underlying22 (hval 1 22 v1 rfl rfl)
  have k1 := h1
  have lt1 : ∀ x ∈ p1, x.block < W.heap.size := by obtain ⟨m, hm⟩ := k1; exact DataW.trod_lt m _ _ _ hm
  obtain ⟨z1, w1, hr1⟩ : ∃ zs, IsRow .u8 W a1 len1 cap1 zs ∧ cap1 ≤ 140737488351232 := by
    obtain ⟨fuel, hf⟩ := h1
    rcases open_ints Try.underlying22 Try.underlying5 (by kernel_rfl) hf with ⟨hcs, _⟩ | ⟨x, l, c, zs, hcs, _, hl, hm, hz, hx, hcell, hwz⟩
    · simp [Value.cells] at hcs
      obtain ⟨rfl, rfl, rfl⟩ := hcs
      exact ⟨[], .inl ⟨rfl, rfl, rfl, rfl⟩, by omega⟩
    · simp [Value.cells] at hcs
      obtain ⟨rfl, rfl, rfl⟩ := hcs
      have hd := (Prod.mk.inj hx).1
      have hs := sized_slice hsz (j := 1) (t := 22) (e := 5) rfl (by rw [hd]; rfl) Try.underlying22
      rw [byte5] at hs
      have hz2 : zs.length = cap1 := by simpa using hz
      simp only [lits, List.length_map, List.length_take, List.length_drop, reachBytes] at hs
      exact ⟨zs, .inr ⟨_, rfl, hl, hm, hz2, hcell, hwz⟩, by omega⟩
  obtain ⟨a2, len2, cap2, rfl⟩ := okWide_slice Try.underlying22 (hval 2 22 v2 rfl rfl)
  have k2 := h2
  have lt2 : ∀ x ∈ p2, x.block < W.heap.size := by obtain ⟨m, hm⟩ := k2; exact DataW.trod_lt m _ _ _ hm
  obtain ⟨z2, w2, hr2⟩ : ∃ zs, IsRow .u8 W a2 len2 cap2 zs ∧ cap2 ≤ 140737488351232 := by
    obtain ⟨fuel, hf⟩ := h2
    rcases open_ints Try.underlying22 Try.underlying5 (by kernel_rfl) hf with ⟨hcs, _⟩ | ⟨x, l, c, zs, hcs, _, hl, hm, hz, hx, hcell, hwz⟩
    · simp [Value.cells] at hcs
      obtain ⟨rfl, rfl, rfl⟩ := hcs
      exact ⟨[], .inl ⟨rfl, rfl, rfl, rfl⟩, by omega⟩
    · simp [Value.cells] at hcs
      obtain ⟨rfl, rfl, rfl⟩ := hcs
      have hd := (Prod.mk.inj hx).1
      have hs := sized_slice hsz (j := 2) (t := 22) (e := 5) rfl (by rw [hd]; rfl) Try.underlying22
      rw [byte5] at hs
      have hz2 : zs.length = cap2 := by simpa using hz
      simp only [lits, List.length_map, List.length_take, List.length_drop, reachBytes] at hs
      exact ⟨zs, .inr ⟨_, rfl, hl, hm, hz2, hcell, hwz⟩, by omega⟩
  clear hA0 hval0
  refine (walk a0 len0 cap0 z0 a1 len1 cap1 z1 a2 len2 cap2 z2 W w0 w1 w2 hr0 hr1 hr2).mono fun e W' ⟨he, bel⟩ => ?_
  subst he
  exact ⟨_, rfl, _, _, _, [], _, [], hW', trodAll_mk1 (shut_bool Try.underlying4 _), (trodAll_cons_mk (Below.trod laidOut (by kernel_rfl) (of_decide_eq_true (by kernel_rfl)) k0 bel lt0) (trodAll_cons_mk (Below.trod laidOut (by kernel_rfl) (of_decide_eq_true (by kernel_rfl)) k1 bel lt1) (trodAll_cons_mk (Below.trod laidOut (by kernel_rfl) (of_decide_eq_true (by kernel_rfl)) k2 bel lt2) trodAll_mk0))), rfl, bel.frame _, fun h => by cases h⟩

theorem over : Rows.frameChecksumIsAffineRow.holds Try.pinned (OpenSpec.ofChange Rows.frameChecksumIsAffineSpec) :=
  OpenClaim.holds_of_wide 5 Try.f5 rfl rfl rfl rfl rfl rfl rfl ⟨rfl, rfl, rfl, rfl, rfl⟩ rfl rfl rfl rfl rfl (by kernel_rfl) Try.func5 (by kernel_rfl)
    (of_decide_eq_true (by kernel_rfl)) (by unfold Func.isWrapper; first | (rw [if_pos (by decide +kernel)]; kernel_rfl) | (rw [if_neg (by decide +kernel)]; exact ⟨rfl, rfl⟩))
    (fun os started H enc _ => lifted os started H enc)

theorem proved : Rows.FrameChecksumIsAffineSaid := over
end Go.Proofs.Ytdaenfhedepiaaa.frameChecksumIsAffine
