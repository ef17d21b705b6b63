/- The program's Next gives what reading a frame gives, for every slice of bytes and every index. Condition: the slice is shorter than 2 to the 47. It writes nothing that was there. -/
import Derived.Test.YtdaenfhedepiaaaFrameApp
import Derived.WalkSpells
import Derived.Deep.RegionWith
set_option linter.unusedVariables false
namespace Go.Proofs.Ytdaenfhedepiaaa
open Go.RowKit

set_option maxHeartbeats 1000000 in
theorem sumFromBytes_any (a : Option Addr) (n cap : Nat) (zs : List Int) (w : World) (h : Bs w a n cap zs) (hn : n ≤ 4) :
    Calls Try.prog 32 #[.slice a n cap] w fun e w' => e = .returned (.int .u32 (ob zs)) ∧ w = w' := by
  have HB := Lib.hid h
  clear h
  go_enter Try.func32, Try.ntmps32
  go_wp2
  go_loop [3, 8] (fun x i => ∃ (k : Nat) (C : Int), k ≤ n ∧ i = .int .i64 k ∧ x = .int .u32 C ∧ C = ob (zs.take k)) (fun _ i => n - (intOf i).toNat)
  case atStart => exact ⟨0, 0, Nat.zero_le _, rfl, rfl, rfl⟩
  case round =>
    obtain ⟨k, C, hk, rfl, rfl, hC⟩ := hrel
    have HC := Lib.hid hC
    clear hC
    by_cases hlt : k < n
    · obtain ⟨b, off, rfl, hbb, hcell⟩ := HB.out.at_ (by omega)
      have hc := hcell k hlt
      have hz := HB.out.byt.get k
      have hbd := ob_bd zs HB.out.byt k (by rw [HB.out.len]; exact hk)
      have h2 : (256 : Int) ^ k ≤ 16777216 := by
        have h2 : (256 : Nat) ^ k ≤ 256 ^ 3 := Nat.pow_le_pow_right (by decide) (by omega)
        have h6 : ((256 ^ k : Nat) : Int) ≤ ((256 ^ 3 : Nat) : Int) := by omega
        rw [Int.natCast_pow] at h6
        simpa using h6
      have HS := Lib.hid (ob_step (l := zs) (k := k) (by rw [HB.out.len]; exact hlt))
      rw [List.getD_eq_getElem?_getD] at hc hz
      generalize zs[k]?.getD 0 = z at hc hz HS
      rw [← HC.out] at hbd HS
      obtain ⟨hz0, hz1⟩ := hz
      have hC0 : 0 ≤ C := hbd.1
      have hC1 : C < 16777216 := by omega
      clear hcell hbd h2
      go_wp2
      have hx : bits .or .u32 (C * 256) z = 256 * C + z := by
        rw [show bits .or .u32 (C * 256) z = (((C * 256).toNat ||| z.toNat : Nat) : Int) from u32_or _ _ (by omega) (by omega) hz0 (by omega), nat_join 8 _ _ (by omega) (by omega)]
        omega
      exact ⟨⟨k + 1, _, by omega, by go_num, rfl, by rw [hx, HS.out]⟩, by simp [intOf]; omega⟩
    · obtain rfl : k = n := by omega
      go_wp2
      go_ret
      exact ⟨ret_int (by rw [HC.out, List.take_of_length_le (by rw [HB.out.len]; exact Nat.le_refl _)]), rfl⟩

/-- the call returned a copy -/
def Copied (w : World) (zs : List Int) (e : Ending) (w' : World) : Prop :=
  ∃ a cap, e = .returned (.slice a zs.length cap) ∧ Bs w' a zs.length cap zs ∧ Below w.heap.size w w'
set_option maxHeartbeats 1000000 in
theorem clone_any (b off n cap : Nat) (zs : List Int) (w : World) (h : Bs w (some ⟨b, off, none⟩) n cap zs) (hn : n ≤ 140737488351232) :
    Calls Try.prog 33 #[.slice (some ⟨b, off, none⟩) n cap] w (Copied w zs) := by
  have hl := h.len
  have HL := Lib.hid hl
  obtain ⟨i0, hi, hz0, hz1, hz2⟩ := info_parts byteInfo
  clear hl
  have hnil := fun (w : World) => Lib.run_eql_slice_nil (P := Try.prog) w 22 5 (some ⟨b, off, none⟩) n cap 0 0 Try.underlying22
  go_enter Try.func33, Try.ntmps33
  have hw := World.ownsRow_made (e := 5) (size := 1) (base := w.heap.size) w #[] 0 (Nat.le_refl _) (by unfold maxLen; omega) rfl
  have h2 := h.below ((Below.refl _ _).alloc (Nat.le_refl _) (Obj.cells #[] 5))
  have hbl : Below w.heap.size w (w.alloc (Obj.cells #[] 5)) := (Below.refl _ _).alloc (Nat.le_refl _) _
  go_wp2_with (at_builtin; refine wpList_append_own _ rfl (.tmp 5) (.tmp 6) 22 rfl w.heap.size 5 i0 (.int .u8 0) 1 1 Try.underlying22 hi hz0 hz1 hz2 rfl (by decide) _ 0 [] rfl hw ⟨b, off, none⟩ n cap (U8 zs) rfl (by rw [u8_len, HL.out]; omega) (h2.news _ rfl) (u8_one _) (by unfold maxLen; omega) (by omega) (by simp) ?_; intro v' w' hown hgrow hnz)
  go_ret
  rw [Nat.zero_add, List.nil_append] at hown
  have hb2 : Below w.heap.size w w' := hbl.grown hgrow hbl.size (fun k hk => by cases hk; exact Nat.le_refl _)
  obtain ⟨g, cp, rfl⟩ : ∃ g cp, v' = .slice (some ⟨g, 0, none⟩) n cp := by
    rcases hown.2 with ⟨h0, _⟩ | ⟨g, cp, cur, h0, _⟩
    · exact absurd (hnz.1 h0).1 (by intro h; cases h)
    · exact ⟨g, cp, h0⟩
  exact ⟨_, cp, by rw [HL.out]; rfl, by rw [HL.out]; exact Bs.own hown h.byt, hb2⟩

set_option maxHeartbeats 2000000 in
theorem next_good (b off n cap P F U : Nat) (zs : List Int) (w : World) (h : Bs w (some ⟨b, off, none⟩) n cap zs) (hn : n ≤ 140737488351232) (hd : uvD zs (P : Int) = ((U : Int), (F : Int), 0))
    (hPF : P < F) (hT : F + U + 4 ≤ n) (hU : U ≤ 1048576) :
    Calls Try.prog 22 #[.slice (some ⟨b, off, none⟩) n cap, .int .i64 (P : Int)] w (NextPost w zs P) := by
  have HB := Lib.hid h
  have HV : Hid (uvV (uvD zs (P : Int)) = .tuple #[.int .u64 (U : Int), .int .i64 (F : Int), .int .i64 0]) := by rw [hd]; rfl
  have hncap : n ≤ cap := h.2.1
  obtain ⟨T, hTe⟩ : ∃ T : Nat, T = F + U := ⟨_, rfl⟩
  have hTn : T + 4 ≤ n := by omega
  have hpart := h.part (i := P) (j := T) (c := cap - P) (by omega) (by omega) (by omega)
  have hpay := h.part (i := F) (j := T) (c := cap - F) (by omega) (by omega) (by omega)
  have hsum := h.part (i := T) (j := T + 4) (c := cap - T) (by omega) (by omega) (by omega)
  have HTE : Hid ((F : Int) + (U : Int) = (T : Int)) := by rw [hTe]; exact (Int.natCast_add F U).symm
  have HTF : Hid (T - F = U) := by rw [hTe]; exact Nat.add_sub_cancel_left F U
  have hFT : F ≤ T := by omega
  have hPT : P < T := by omega
  have hTc : T ≤ cap := by omega
  have hFc : F < cap := by omega
  have hPc : P < cap := by omega
  have hTcc : T < cap := by omega
  have hs : (U : Int) + 4 ≤ (n : Int) - (F : Int) := by omega
  have hT4 : (T : Int) + 4 ≤ (n : Int) := by omega
  have hT4c : (T : Int) + 4 ≤ (cap : Int) := by omega
  have e0 : T + 4 - T = 4 := by omega
  rw [e0] at hsum
  have e1 : ((F : Int) + (U : Int)).toNat = T := by omega
  have e2 : ((F : Int) + (U : Int) - (P : Int)).toNat = T - P := by omega
  have e3 : (F : Int) + (U : Int) + 4 = (T : Int) + 4 := by omega
  have HNbad : Hid (ob ((zs.drop T).take 4) ≠ cs 0 ((zs.drop P).take (T - P)) → nx zs P = (14, [], 0)) := fun hx =>
    nx_sum hd (by omega) (by rw [h.len]; omega) (by rw [e1, e2, Int.toNat_natCast]; exact hx)
  have HNok : Hid (ob ((zs.drop T).take 4) = cs 0 ((zs.drop P).take (T - P)) → nx zs P = (0, (zs.drop F).take U, (T : Int) + 4)) := fun hx => by
    rw [nx_ok hd (by omega) (by rw [h.len]; omega) (by rw [e1, e2, Int.toNat_natCast]; exact hx), e3, Int.toNat_natCast, Int.toNat_natCast]
  clear h hd hTe hT e0 e1 e2 e3
  rw [HTF.out] at hpay
  generalize (zs.drop F).take U = Z at hpay HNok
  go_enter Try.func22, Try.ntmps22
  go_wp2_with fail
  refine (uv_any _ _ _ (P : Int) zs _ HB.out (by omega)).mono ?_
  rintro e w1 ⟨rfl, rfl⟩
  rw [HV.out]
  go_wp2_with fail
  rw [HTE.out]
  have hw : IntKind.i64.wrap ((T : Int) + 4) = (T : Int) + 4 := by rw [IntKind.wrap_i64]; omega
  go_region_with (first
    | (go_at_call 13; refine (checksum_ok _ _ _ _ _ hpart.drew (by omega)).mono ?_; rintro e w1 ⟨rfl, hb⟩)
    | (go_at_call 32; refine (sumFromBytes_any _ _ _ _ _ (hsum.drew.below hb) (by omega)).mono ?_; rintro e w2 ⟨rfl, rfl⟩))
  all_goals
    have hpay2 := hpay.drew.below hb
    have hbl : Below w.heap.size w w1 := ⟨hb.os, hb.tape, hb.output, hb.size, hb.block⟩
    generalize hD : cs 0 ((zs.drop P).take (T - P)) = D
    generalize hC : ob ((zs.drop T).take 4) = C
    have HDD := Lib.hid hD
    have HCC := Lib.hid hC
    clear hD hC hb hsum hpart hpay hw
    by_cases he : C = D
    · have heq : (D != C) = false := by simp [he]
      have HN := Lib.hid (HNok.out (by rw [HCC.out, HDD.out]; exact he))
      clear he
      go_wp2_with fail
      rw [HTF.out]
      refine (clone_any b (off + F) _ _ _ _ hpay2 (by omega)).mono ?_
      rintro e w2 ⟨a2, c2, rfl, y2, hb2⟩
      have hb3 := hbl.trans (hb2.mono hbl.size)
      go_wp2
      go_ret3
      refine ⟨a2, c2, ?_, ?_, hb3⟩
      · rw [HN.out]; rfl
      · rw [HN.out]; exact y2
    · have hne : (D != C) = true := by simp; exact fun e => he e.symm
      have HN := Lib.hid (HNbad.out (by rw [HCC.out, HDD.out]; exact he))
      clear he
      go_wp2
      go_ret3
      refine ⟨none, 0, ?_, ?_, hbl⟩
      · rw [HN.out]; rfl
      · rw [HN.out]; exact Bs.nil_ _

set_option maxHeartbeats 1000000 in
theorem next_ok : NextOk := by
  intro a n cap p zs w h hn hp1 hp2
  obtain ⟨u, f, x, hd⟩ : ∃ u f x, uvD zs p = (u, f, x) := ⟨_, _, _, rfl⟩
  have HD := Lib.hid hd
  have HB := Lib.hid h
  have HV : Hid (uvV (uvD zs p) = .tuple #[.int .u64 u, .int .i64 f, .int .i64 x]) := by rw [hd]; rfl
  by_cases hx : x = 0
  · subst hx
    obtain ⟨hp0, hu0, hu1, hpf, hfn⟩ := uvD_ok h.byt hd
    rw [h.len] at hfn
    by_cases hbig : 1048576 < u
    · have HN := Lib.hid (nx_big hd hbig)
      clear h hd
      go_enter Try.func22, Try.ntmps22
      go_wp2_with fail
      refine (uv_any _ _ _ p zs _ HB.out (by omega)).mono ?_
      rintro e w1 ⟨rfl, rfl⟩
      rw [HV.out]
      go_wp2
      go_ret3
      exact NextPost.bad HN.out
    · by_cases hs : (n : Int) - f < u + 4
      · have HN := Lib.hid (nx_short hd hbig (by rw [h.len]; exact hs))
        clear h hd
        go_enter Try.func22, Try.ntmps22
        go_wp2_with fail
        refine (uv_any _ _ _ p zs _ HB.out (by omega)).mono ?_
        rintro e w1 ⟨rfl, rfl⟩
        rw [HV.out]
        go_wp2
        go_ret3
        exact NextPost.bad HN.out
      · obtain ⟨P, rfl⟩ := Int.eq_ofNat_of_zero_le hp0
        obtain ⟨U, rfl⟩ := Int.eq_ofNat_of_zero_le hu0
        obtain ⟨F, rfl⟩ := Int.eq_ofNat_of_zero_le (show 0 ≤ f by omega)
        obtain ⟨b, off, rfl, _, _⟩ := h.at_ (by omega)
        exact next_good b off n cap P F U zs w h hn hd (by omega) (by omega) (by omega)
  · have hne : (x != 0) = true := by simpa using hx
    have HN := Lib.hid (nx_uv hd hx)
    clear h hd hx
    go_enter Try.func22, Try.ntmps22
    go_wp2_with fail
    refine (uv_any _ _ _ p zs _ HB.out (by omega)).mono ?_
    rintro e w1 ⟨rfl, rfl⟩
    rw [HV.out]
    go_wp2
    go_ret3
    exact NextPost.bad HN.out
end Go.Proofs.Ytdaenfhedepiaaa
