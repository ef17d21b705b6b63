/- What the functions of layer word and of its reference that make a slice of bytes return, for every input: the copy, the varint, the key's bytes, two strings joined. Conditions: each number fits its kind; a length stays below 2 to the 48. -/
import Derived.Test.YtcdajfdagdiodaaLeaf
import Derived.Test.YtcdajfdagdiodaaCodes
import Derived.BigQuiet
import Derived.Deep.QuietTactic
set_option linter.unusedVariables false
namespace Go.Proofs.Ytcdajfdagdiodaa
open Go.RowKit

theorem byteInfo : (Try.prog.info? 5).map (fun i => (i.zero, i.size, i.bytes)) = some (some (.int .u8 0), 1, 1) := by kernel_rfl

/-- the call returned a fresh slice (g, n, cap) that holds the bytes zs, and wrote nothing that was there -/
def Made (B : Nat) (w : World) (n cap : Nat) (zs : List Int) (e : Ending) (w' : World) : Prop :=
  e = .returned (.slice (some ⟨w.heap.size, 0, none⟩) n cap) ∧ w'.ownsRow B 5 1 (.slice (some ⟨w.heap.size, 0, none⟩) n cap) n (U8 zs) ∧ Below w.heap.size w w'

theorem copy_any (a : Option Addr) (n cap room : Nat) (r : Int) (zs : List Int) (w : World) (B : Nat) (hB : B ≤ w.heap.size) (h : Bs w a n cap zs) (hr : r = (room : Int)) (hb : n + room ≤ 281474976710656) :
    Calls Try.prog 35 #[.slice a n cap, .int .i64 r] w (Made B w n (n + room) zs) := by
  subst hr
  obtain ⟨i0, hi, hz0, hz1, hz2⟩ := info_parts byteInfo
  go_enter Try.func35, Try.ntmps35
  go_wp2_with (at_make; refine wpList_make_own _ rfl _ _ 28 rfl B 5 i0 (.int .u8 0) 1 Try.underlying28 hi hz0 hz1 _ _ _ (n + room) rfl rfl (by omega) ?b2 ?b3 hB ?_)
  case b2 => rw [hz2]; omega
  case b3 => unfold maxLen; omega
  intro w0 hown0 hgrow0
  have hb0 : Below w.heap.size w w0 := (Below.refl _ _).grown hgrow0 (Nat.le_refl _) (fun k h => by cases h)
  have h0 : Bs w0 a n cap zs := h.below hb0
  go_wp2_with (at_builtin; refine wpList_append_fits_any _ rfl (.tmp 11) (.tmp 12) 28 rfl B 5 i0 1 Try.underlying28 hi hz1 w.heap.size 0 (n + room) _ rfl hown0 a n cap (U8 zs) rfl (by rw [u8_len, h.len]; omega) h.2.2.1 h0.news (u8_one _) (by omega) ?_; intro w1 hown1 hgrow1)
  go_ret
  simp only [Nat.zero_add, List.nil_append] at hown1 ⊢
  exact ⟨rfl, hown1, hb0.grown hgrow1 hb0.size (fun k hk => by cases hk; exact Nat.le_refl _)⟩

set_option maxHeartbeats 400000 in
theorem appendUvarint_any (a : Option Addr) (n cap : Nat) (zs : List Int) (u : Int) (w : World) (h : Bs w a n cap zs) (hu0 : 0 ≤ u) (hu1 : u < 18446744073709551616) (hb : n + 10 ≤ 281474976710656) :
    Calls Try.prog 19 #[.slice a n cap, .int .u64 u] w (Made w.heap.size w (n + (vs 9 u).length) (n + 10) (zs ++ vs 9 u)) := by
  obtain ⟨i0, hi, hz0, hz1, hz2⟩ := info_parts byteInfo
  go_enter Try.func19, Try.ntmps19
  go_wp2_with (go_at_call 35; refine (copy_any a n cap 10 10 zs _ w.heap.size (Nat.le_refl _) h rfl hb).mono ?_; rintro e w1 ⟨rfl, hown1, hb1⟩)
  go_loopw [1, 5] (fun x out wr => ∃ (k : Nat) (X : Int) (pre : List Int), k ≤ 9 ∧ x = .int .u64 X ∧ Rest k X ∧ pre.length = k ∧ pre ++ vs (9 - k) X = vs 9 u ∧ out = .slice (some ⟨w.heap.size, 0, none⟩) (n + k) (n + 10) ∧
      wr.ownsRow w.heap.size 5 1 (.slice (some ⟨w.heap.size, 0, none⟩) (n + k) (n + 10)) (n + k) (U8 (zs ++ pre)) ∧ Below w.heap.size w wr)
    (fun x _ _ => (intOf x).toNat)
  case atStart => exact ⟨0, u, [], by omega, rfl, Rest.zero hu0 hu1, rfl, rfl, rfl, by simpa using hown1, hb1⟩
  case round =>
    obtain ⟨k, X, pre, hk, rfl, hR, hl, hv, rfl, hown, hbl⟩ := hrel
    obtain ⟨hX0, hX1⟩ := hR.le
    have HL := Lib.hid hl
    have HV := Lib.hid hv
    have HR := Lib.hid hR
    clear hl hv hR
    by_cases hX : 127 < X
    · have hk9 := HR.out.big hX
      go_wp2_with (at_builtin; refine wpList_append_fits _ rfl (.tmp 10) (.tmp 14) 28 rfl w.heap.size 5 i0 1 Try.underlying28 hi hz1 w.heap.size (n + k) (n + 10) _ rfl (hown.alloc _) ⟨wr.heap.size, 0, none⟩ 1 1 _ rfl rfl (cell_new1 _ _ _) (one_cell1 _ _) (by omega) ?_; intro w2 hown2 hgrow2)
      have hv2 := vs_big (8 - k) X hX
      have e9 : 8 - k + 1 = 9 - k := by omega
      have e10 : 9 - (k + 1) = 8 - k := by omega
      rw [e9] at hv2
      have ho := or8_128 (X % 256) (by omega) (by omega)
      have ho2 : X % 256 % 128 = X % 128 := by omega
      rw [ho, ho2] at hown2
      refine ⟨⟨k + 1, X / 128, pre ++ [X % 128 + 128], by omega, rfl, HR.out.step, by simp [HL.out], ?_, rfl, ?_, (hbl.alloc hbl.size _).grown hgrow2 (by simp; have := hbl.size; omega) (fun k hk => by cases hk; exact Nat.le_refl _)⟩, by simp [intOf]; omega⟩
      · rw [← HV.out, hv2, e10]; simp
      · rw [← List.append_assoc, u8_app]; exact hown2
    · go_wp2_with (at_builtin; refine wpList_append_fits _ rfl (.tmp 18) (.tmp 21) 28 rfl w.heap.size 5 i0 1 Try.underlying28 hi hz1 w.heap.size (n + k) (n + 10) _ rfl (hown.alloc _) ⟨wr.heap.size, 0, none⟩ 1 1 _ rfl rfl (cell_new1 _ _ _) (one_cell1 _ _) (by omega) ?_; intro w2 hown2 hgrow2)
      go_ret
      have hv2 := vs_small (9 - k) X hX
      have HV2 := HV.out
      rw [hv2] at HV2
      have hln : (vs 9 u).length = k + 1 := by rw [← HV2]; simp [HL.out]
      refine ⟨?_, ?_, (hbl.alloc hbl.size _).grown hgrow2 (by simp; have := hbl.size; omega) (fun k hk => by cases hk; exact Nat.le_refl _)⟩
      · rw [hln]; rfl
      · rw [hln, ← HV2, ← List.append_assoc, u8_app]; exact hown2
/-- the call returned a fresh slice, of whatever capacity, that holds the bytes zs, and wrote nothing that was there -/
def MadeAny (w : World) (zs : List Int) (e : Ending) (w' : World) : Prop :=
  ∃ g cap, e = .returned (.slice (some ⟨g, 0, none⟩) zs.length cap) ∧ w'.ownsRow w.heap.size 5 1 (.slice (some ⟨g, 0, none⟩) zs.length cap) zs.length (U8 zs) ∧ Below w.heap.size w w'

set_option maxHeartbeats 400000 in
theorem varint_any (u : Int) (w : World) (hu0 : 0 ≤ u) (hu1 : u < 18446744073709551616) :
    Calls Try.prog 22 #[.int .u64 u] w (MadeAny w (vs 9 u)) := by
  obtain ⟨i0, hi, hz0, hz1, hz2⟩ := info_parts byteInfo
  go_enter Try.func22, Try.ntmps22
  go_wp2
  go_loopw [0, 3] (fun x out wr => ∃ (k : Nat) (X : Int) (pre : List Int), k ≤ 9 ∧ x = .int .u64 X ∧ Rest k X ∧ pre.length = k ∧ pre ++ vs (9 - k) X = vs 9 u ∧
      wr.ownsRow w.heap.size 5 1 out k (U8 pre) ∧ Below w.heap.size w wr)
    (fun x _ _ => (intOf x).toNat)
  case atStart => exact ⟨0, u, [], by omega, rfl, Rest.zero hu0 hu1, rfl, rfl, World.ownsRow_nil _ _ _ _, Below.refl _ _⟩
  case round =>
    obtain ⟨k, X, pre, hk, rfl, hR, hl, hv, hown, hbl⟩ := hrel
    obtain ⟨hX0, hX1⟩ := hR.le
    have HL := Lib.hid hl
    have HV := Lib.hid hv
    have HR := Lib.hid hR
    clear hl hv hR
    by_cases hX : 127 < X
    · have hk9 := HR.out.big hX
      go_wp2_with (at_builtin; refine wpList_append_own _ rfl (.tmp 6) (.tmp 11) 28 rfl w.heap.size 5 i0 _ 1 1 Try.underlying28 hi hz0 hz1 hz2 rfl (by decide) _ k _ rfl (hown.alloc _) ⟨wr.heap.size, 0, none⟩ 1 1 _ rfl rfl (cell_new1 _ _ _) (one_cell1 _ _) (by unfold maxLen; omega) (by omega) (by have := hbl.size; simp; omega) ?_; intro v2 w2 hown2 hgrow2 _)
      have hv2 := vs_big (8 - k) X hX
      have e9 : 8 - k + 1 = 9 - k := by omega
      have e10 : 9 - (k + 1) = 8 - k := by omega
      rw [e9] at hv2
      have hg : (wr.alloc (Obj.cells #[Value.int IntKind.u8 (X % 128 + 128)] 5)).grownBy w2 u3.ownBlock := hgrow2
      refine ⟨⟨k + 1, X / 128, pre ++ [X % 128 + 128], by omega, rfl, HR.out.step, by simp [HL.out], ?_, ?_, (hbl.alloc hbl.size _).grown hg (by simp; have := hbl.size; omega) (own_base hown)⟩, by simp [intOf]; omega⟩
      · rw [← HV.out, hv2, e10]; simp
      · rw [u8_app]; exact hown2
    · go_wp2_with (at_builtin; refine wpList_append_own _ rfl (.tmp 15) (.tmp 18) 28 rfl w.heap.size 5 i0 _ 1 1 Try.underlying28 hi hz0 hz1 hz2 rfl (by decide) _ k _ rfl (hown.alloc _) ⟨wr.heap.size, 0, none⟩ 1 1 _ rfl rfl (cell_new1 _ _ _) (one_cell1 _ _) (by unfold maxLen; omega) (by omega) (by have := hbl.size; simp; omega) ?_; intro v2 w2 hown2 hgrow2 _)
      go_ret
      have hv2 := vs_small (9 - k) X hX
      have HV2 := HV.out
      rw [hv2] at HV2
      have hln : (vs 9 u).length = k + 1 := by rw [← HV2]; simp [HL.out]
      have hg : (wr.alloc (Obj.cells #[Value.int IntKind.u8 X] 5)).grownBy w2 u3.ownBlock := hgrow2
      obtain ⟨g, cap, rfl⟩ := own_form hown2 (by omega)
      refine ⟨g, cap, ?_, ?_, (hbl.alloc hbl.size _).grown hg (by simp; have := hbl.size; omega) (own_base hown)⟩
      · rw [hln]; rfl
      · rw [hln, ← HV2, u8_app]; exact hown2

set_option maxHeartbeats 400000 in
theorem join_any (a c : Option Addr) (n cap m cp : Nat) (xs ys : List Int) (w : World) (h : Bs w a n cap xs) (h' : Bs w c m cp ys) (hb : n + m ≤ 281474976710656) :
    Calls Try.prog 21 #[.slice a n cap, .slice c m cp] w (Made w.heap.size w (n + m) (n + m) (xs ++ ys)) := by
  obtain ⟨i0, hi, hz0, hz1, hz2⟩ := info_parts byteInfo
  go_enter Try.func21, Try.ntmps21
  go_wp2_with (at_make; refine wpList_make_own _ rfl _ _ 28 rfl w.heap.size 5 i0 (.int .u8 0) 1 Try.underlying28 hi hz0 hz1 _ _ _ (n + m) rfl rfl (by omega) ?b2 ?b3 (Nat.le_refl _) ?_)
  case b2 => rw [hz2]; omega
  case b3 => unfold maxLen; omega
  intro w0 hown0 hgrow0
  have hb0 : Below w.heap.size w w0 := (Below.refl _ _).grown hgrow0 (Nat.le_refl _) (fun k h => by cases h)
  go_wp2
  go_loopw [5, 6] (fun out i wr => ∃ k : Nat, k ≤ n ∧ i = .int .i64 k ∧ out = .slice (some ⟨w.heap.size, 0, none⟩) k (n + m) ∧
      wr.ownsRow w.heap.size 5 1 (.slice (some ⟨w.heap.size, 0, none⟩) k (n + m)) k (U8 (xs.take k)) ∧ Below w.heap.size w wr)
    (fun _ i _ => n - (intOf i).toNat)
  case atStart => exact ⟨0, Nat.zero_le _, rfl, rfl, hown0, hb0⟩
  case round =>
    obtain ⟨k, hk, rfl, rfl, hown, hbl⟩ := hrel
    by_cases hlt : k < n
    · obtain ⟨b, off, rfl, hbb, hcell⟩ := (h.below hbl).at_ (by omega)
      have hc := hcell k hlt
      have HH := Lib.hid h
      clear hcell h
      go_wp2_with (at_builtin; refine wpList_append_fits _ rfl (.tmp 20) (.tmp 25) 28 rfl w.heap.size 5 i0 1 Try.underlying28 hi hz1 w.heap.size k (n + m) _ rfl (hown.alloc _) ⟨wr.heap.size, 0, none⟩ 1 1 _ rfl rfl (cell_new1 _ _ _) (one_cell1 _ _) (by omega) ?_; intro w2 hown2 hgrow2)
      refine ⟨⟨k + 1, by omega, by go_num, rfl, ?_, (hbl.alloc hbl.size _).grown hgrow2 (by simp; have := hbl.size; omega) (fun k hk => by cases hk; exact Nat.le_refl _)⟩, by simp [intOf]; omega⟩
      rw [← u8_snoc (by have := HH.out.len; omega)]; exact hown2
    · obtain rfl : k = n := by omega
      go_wp2
      obtain ⟨wo, rfl⟩ : ∃ wo : World, wo = wr := ⟨_, rfl⟩
      go_loopw [5, 7] (fun out i wr => ∃ j : Nat, j ≤ m ∧ i = .int .i64 j ∧ out = .slice (some ⟨w.heap.size, 0, none⟩) (k + j) (k + m) ∧
          wr.ownsRow w.heap.size 5 1 (.slice (some ⟨w.heap.size, 0, none⟩) (k + j) (k + m)) (k + j) (U8 (xs ++ ys.take j)) ∧ Below w.heap.size w wr)
        (fun _ i _ => m - (intOf i).toNat)
      case atStart => exact ⟨0, Nat.zero_le _, rfl, rfl, by rw [List.take_of_length_le (by rw [h.len]; exact Nat.le_refl _)] at hown; simpa using hown, hbl⟩
      case round =>
        clear hown hbl
        obtain ⟨j, hj, rfl, rfl, hown, hbl⟩ := hrel
        by_cases hlt2 : j < m
        · obtain ⟨b, off, rfl, hbb, hcell⟩ := (h'.below hbl).at_ (by omega)
          have hc := hcell j hlt2
          have HH := Lib.hid h'
          clear hcell h'
          go_wp2_with (at_builtin; refine wpList_append_fits _ rfl (.tmp 33) (.tmp 38) 28 rfl w.heap.size 5 i0 1 Try.underlying28 hi hz1 w.heap.size (k + j) (k + m) _ rfl (hown.alloc _) ⟨wr.heap.size, 0, none⟩ 1 1 _ rfl rfl (cell_new1 _ _ _) (one_cell1 _ _) (by omega) ?_; intro w2 hown2 hgrow2)
          refine ⟨⟨j + 1, by omega, by go_num, rfl, ?_, (hbl.alloc hbl.size _).grown hgrow2 (by simp; have := hbl.size; omega) (fun k hk => by cases hk; exact Nat.le_refl _)⟩, by simp [intOf]; omega⟩
          have e := u8_snoc (zs := ys) (k := j) (by have := HH.out.len; omega)
          rw [u8_app, ← e, ← List.append_assoc, ← u8_app]; exact hown2
        · obtain rfl : j = m := by omega
          go_wp2
          go_ret
          rw [List.take_of_length_le (by rw [h'.len]; exact Nat.le_refl _)] at hown
          exact ⟨rfl, hown, hbl⟩

set_option maxHeartbeats 400000 in
theorem word_any (u : Int) (w : World) (hu0 : 0 ≤ u) (hu1 : u < 18446744073709551616) :
    Calls Try.prog 36 #[.int .u64 u, .int .i64 8] w (Made w.heap.size w 8 8 (be 8 u)) := by
  obtain ⟨i0, hi, hz0, hz1, hz2⟩ := info_parts byteInfo
  go_enter Try.func36, Try.ntmps36
  go_wp2_with (at_make; refine wpList_make_full _ rfl _ _ 28 rfl w.heap.size 5 i0 (.int .u8 0) 1 Try.underlying28 hi hz0 hz1 _ _ _ _ 8 rfl rfl rfl rfl ?b2 ?b3 (Nat.le_refl _) ?_)
  case b2 => rw [hz2]; omega
  case b3 => unfold maxLen; omega
  intro w0 hown0 hgrow0
  have hown1 : w0.ownsRow w.heap.size 5 1 (.slice (some ⟨w.heap.size, 0, none⟩) 8 8) 8 (U8 (List.replicate 8 0)) := by
    have e : (madeCells #[Value.int .u8 0] 8).toList = U8 (List.replicate 8 0) := by
      rw [toList_madeCells_one]; rfl
    rw [e] at hown0; exact hown0
  clear hown0
  have hb0 : Below w.heap.size w w0 := (Below.refl _ _).grown hgrow0 (Nat.le_refl _) (fun k h => by cases h)
  go_wp2
  go_loopw [0, 6] (fun x i wr => ∃ (k : Nat) (X : Int) (T : List Int), k ≤ 8 ∧ x = .int .u64 X ∧ 0 ≤ X ∧ X < 18446744073709551616 ∧ i = .int .i64 (7 - (k : Int)) ∧ be (8 - k) X ++ T = be 8 u ∧
      wr.ownsRow w.heap.size 5 1 (.slice (some ⟨w.heap.size, 0, none⟩) 8 8) 8 (U8 (List.replicate (8 - k) 0 ++ T)) ∧ Below w.heap.size w wr)
    (fun _ i _ => (intOf i + 1).toNat)
  case atStart => exact ⟨0, u, [], by omega, rfl, hu0, hu1, rfl, by simp, by simpa using hown1, hb0⟩
  case round =>
    obtain ⟨k, X, T, hk, rfl, hX0, hX1, rfl, hv, hown, hbl⟩ := hrel
    have HV := Lib.hid hv
    clear hv hown1
    by_cases hlt : k < 8
    · obtain ⟨j, rfl, hj⟩ : ∃ j : Nat, k = 7 - j ∧ j ≤ 7 := ⟨7 - k, by omega, by omega⟩
      have e : (7 : Int) - ((7 - j : Nat) : Int) = (j : Int) := by omega
      rw [e]
      clear e
      have hl := hown.1
      have hf := hown.frozenAt j
      have hcl : wr.cell? ⟨w.heap.size, j, none⟩ = some ((U8 (List.replicate (8 - (7 - j)) 0 ++ T))[j]'(by omega)) := by
        rw [hown.cellAt j (by omega), List.getElem?_eq_getElem (by omega)]
      generalize (U8 (List.replicate (8 - (7 - j)) 0 ++ T))[j]'(by omega) = c0 at hcl
      clear hl
      go_wp2
      have e1 : 8 - (7 - j) = j + 1 := by omega
      have e2 : 8 - (8 - j) = j := by omega
      have hs := (hown.stored j (Value.int IntKind.u8 (X % 256))).1
      rw [e1, u8_set, be_set] at hs
      have HV2 := HV.out
      rw [e1] at HV2
      refine ⟨⟨8 - j, X / 256, [X % 256] ++ T, by omega, rfl, by omega, by omega, ?_, ?_, ?_, hbl.setCell (Nat.le_refl _) _⟩, by simp [intOf]⟩
      · have : (j : Int) - 1 = 7 - ((8 - j : Nat) : Int) := by omega
        rw [this]
      · rw [e2, ← HV2, be]; simp
      · rw [e2]; exact hs
    · obtain rfl : k = 8 := by omega
      go_wp2
      go_ret
      have e : T = be 8 u := by rw [← HV.out]; rfl
      subst e
      exact ⟨rfl, hown, hbl⟩

theorem keyBytes_any (k : Int) (w : World) (h0 : -9223372036854775808 ≤ k) (h1 : k ≤ 9223372036854775807) :
    Calls Try.prog 27 #[.int .i64 k] w (Made w.heap.size w 8 8 (be 8 (kw k))) := by
  have hb := kw_bd k h0 h1
  have HK := Lib.hid (kw_add k h0 h1)
  go_enter Try.func27, Try.ntmps27
  go_wp2_with fail
  rw [HK.out]
  refine (word_any _ _ hb.1 hb.2).mono ?_
  rintro e w1 ⟨rfl, ho, hbl⟩
  go_wp2
  go_ret
  exact ⟨rfl, ho, hbl⟩

set_option maxHeartbeats 400000 in
theorem appendKey_any (a : Option Addr) (n cap : Nat) (zs : List Int) (key : Int) (w : World) (h : Bs w a n cap zs) (h0 : -9223372036854775808 ≤ key) (h1 : key ≤ 9223372036854775807) (hb : n + 8 ≤ 281474976710656) :
    Calls Try.prog 26 #[.slice a n cap, .int .i64 key] w (Made w.heap.size w (n + 8) (n + 8) (zs ++ be 8 (kw key))) := by
  obtain ⟨i0, hi, hz0, hz1, hz2⟩ := info_parts byteInfo
  have hkw := kw_bd key h0 h1
  have HK := Lib.hid (kw_xor key h0 h1)
  go_enter Try.func26, Try.ntmps26
  go_wp2_with (go_at_call 35; refine (copy_any a n cap 8 8 zs _ w.heap.size (Nat.le_refl _) h rfl hb).mono ?_; rintro e w1 ⟨rfl, hown1, hb1⟩)
  obtain ⟨U, HU⟩ : ∃ U, Hid (kw key = U) := ⟨_, rfl⟩
  rw [HK.out, HU.out]
  rw [HU.out] at hkw
  obtain ⟨hU0, hU1⟩ := hkw
  clear HK
  go_loopw [5, 7] (fun out i wr => ∃ k : Nat, k ≤ 8 ∧ i = .int .i64 (56 - 8 * (k : Int)) ∧ out = .slice (some ⟨w.heap.size, 0, none⟩) (n + k) (n + 8) ∧
      wr.ownsRow w.heap.size 5 1 (.slice (some ⟨w.heap.size, 0, none⟩) (n + k) (n + 8)) (n + k) (U8 (zs ++ (be 8 U).take k)) ∧ Below w.heap.size w wr)
    (fun _ i _ => (intOf i + 8).toNat)
  case atStart => exact ⟨0, by omega, rfl, rfl, by simpa using hown1, hb1⟩
  case round =>
    obtain ⟨k, hk, rfl, rfl, hown, hbl⟩ := hrel
    by_cases hlt : k < 8
    · obtain ⟨j, hj⟩ : ∃ j : Nat, j = 56 - 8 * k := ⟨_, rfl⟩
      have e : (56 : Int) - 8 * (k : Int) = (j : Int) := by omega
      rw [e]
      have hj2 : j ≤ 56 := by omega
      have HJ := Lib.hid hj
      clear e hj
      go_wp2_with (at_builtin; refine wpList_append_fits _ rfl (.tmp 17) (.tmp 22) 28 rfl w.heap.size 5 i0 1 Try.underlying28 hi hz1 w.heap.size (n + k) (n + 8) _ rfl (hown.alloc _) ⟨wr.heap.size, 0, none⟩ 1 1 _ rfl rfl (cell_new1 _ _ _) (one_cell1 _ _) (by omega) ?_; intro w2 hown2 hgrow2)
      have ht := be8_take U k hlt
      rw [← HJ.out] at ht
      refine ⟨⟨k + 1, by omega, ?_, rfl, ?_, (hbl.alloc hbl.size _).grown hgrow2 (by simp; have := hbl.size; omega) (fun k hk => by cases hk; exact Nat.le_refl _)⟩, by simp [intOf]; omega⟩
      · have e1 : (j : Int) - 8 = 56 - 8 * ((k + 1 : Nat) : Int) := by have := HJ.out; omega
        rw [e1]
      · rw [ht, ← List.append_assoc, u8_app]; exact hown2
    · obtain rfl : k = 8 := by omega
      go_wp2
      go_ret
      rw [List.take_of_length_le (by rw [be_len]; exact Nat.le_refl _)] at hown
      rw [HU.out]
      exact ⟨rfl, hown, hbl⟩

end Go.Proofs.Ytcdajfdagdiodaa
