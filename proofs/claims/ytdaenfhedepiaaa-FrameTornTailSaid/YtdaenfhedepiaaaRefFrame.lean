/- The reference's Frame returns the frame of every payload, and its Next what reading a frame gives, for every slice of bytes and every index. Condition: a slice is shorter than 2 to the 47. They write nothing that was there. -/
import Derived.Test.YtdaenfhedepiaaaFrames
import Derived.Test.YtdaenfhedepiaaaRefJoin
import Derived.Test.YtdaenfhedepiaaaRefVarint
import Derived.Test.YtdaenfhedepiaaaRefWord
import Derived.Test.YtdaenfhedepiaaaRefUv
set_option linter.unusedVariables false
namespace Go.Proofs.Ytdaenfhedepiaaa
open Go.RowKit

set_option maxHeartbeats 400000 in
theorem refFrame_any (a : Option Addr) (n cap : Nat) (zs : List Int) (w : World) (h : Bs w a n cap zs) (hn : n ≤ 140737488351232) :
    Calls Try.prog 21 #[.slice a n cap] w (MadeAny w (fr zs)) := by
  have hl := h.len
  have HL := Lib.hid hl
  have hv1 := vs9_byt (n : Int) (by omega) (by omega)
  obtain ⟨hv2, hv3⟩ := vs_len 9 (n : Int)
  have hz := h.byt
  clear hl
  go_enter Try.func21, Try.ntmps21
  go_wp2_with fail
  refine (varint_any (n : Int) _ (by omega) (by omega)).mono ?_
  rintro e w1 ⟨g, cp, rfl, ho, hb⟩
  have hbs := Bs.own ho hv1
  have h1 := h.below hb
  clear ho h
  go_wp2_with fail
  refine (join_any _ _ _ _ _ _ _ _ _ hbs h1 (by omega)).mono ?_
  rintro e w2 ⟨rfl, ho2, hb2⟩
  have hd2 := Bs.own ho2 (hv1.app hz)
  have hbl2 : Below w.heap.size w w2 := hb.trans (hb2.mono hb.size)
  clear ho2 hb2 hbs h1 hb
  go_wp2_with fail
  refine (refChecksum_any _ _ _ _ _ hd2 (by omega)).mono ?_
  rintro e w3 ⟨rfl, rfl⟩
  obtain ⟨hc1, hc2⟩ := cs_bd 0 (vs 9 (n : Int) ++ zs)
  go_wp2_with fail
  refine (word_any _ 4 4 _ hc1 (by omega) rfl (by omega)).mono ?_
  rintro e w3 ⟨rfl, ho3, hb3⟩
  have hw3 := Bs.own ho3 (be_byt _ _)
  have hd3 := hd2.below hb3
  have hbl3 : Below w.heap.size w w3 := hbl2.trans (hb3.mono hbl2.size)
  clear ho3 hb3 hd2 hbl2
  go_wp2_with fail
  refine (join_any _ _ _ _ _ _ _ _ _ hd3 hw3 (by omega)).mono ?_
  rintro e w4 ⟨rfl, ho4, hb4⟩
  have hbl4 : Below w.heap.size w w4 := hbl3.trans (hb4.mono hbl3.size)
  go_wp2
  go_ret
  have e1 : fr zs = vs 9 (n : Int) ++ zs ++ be 4 (cs 0 (vs 9 (n : Int) ++ zs)) := by unfold fr hd; rw [HL.out]
  have e2 : (fr zs).length = (vs 9 (n : Int)).length + n + 4 := by rw [e1]; simp [be_len, HL.out]; omega
  refine ⟨w3.heap.size, (vs 9 (n : Int)).length + n + 4, ?_, ?_, hbl4⟩
  · rw [e2]; rfl
  · rw [e2, e1]; exact own_mono ho4 hbl3.size

/-- what a call that reads a frame leaves -/
def NextPost (w : World) (zs : List Int) (p : Int) (e : Ending) (w' : World) : Prop :=
  ∃ a cap, e = .returned (.tuple #[.slice a (nx zs p).2.1.length cap, .int .i64 (nx zs p).2.2, .int .i64 (nx zs p).1]) ∧ Bs w' a (nx zs p).2.1.length cap (nx zs p).2.1 ∧ Below w.heap.size w w'
theorem NextPost.bad {w : World} {zs : List Int} {p x : Int} (h : nx zs p = (x, [], 0)) : NextPost w zs p (.returned (.tuple #[.slice none 0 0, .int .i64 0, .int .i64 x])) w := by
  refine ⟨none, 0, ?_, ?_, Below.refl _ _⟩
  · rw [h]; rfl
  · rw [h]; exact Bs.nil_ w

theorem ob_at4 {zs : List Int} {p k : Nat} (hz : Byt zs) (hk : k < 4) (hp : p + 4 ≤ zs.length) :
    0 ≤ ob ((zs.drop p).take k) ∧ ob ((zs.drop p).take k) < 16777216 ∧ ob ((zs.drop p).take (k + 1)) = 256 * ob ((zs.drop p).take k) + zs.getD (p + k) 0 := by
  have h := ob_bd (zs.drop p) (hz.drop p) k (by simp; omega)
  have h2 : (256 : Nat) ^ k ≤ 256 ^ 3 := Nat.pow_le_pow_right (by decide) (by omega)
  have h6 : ((256 ^ k : Nat) : Int) ≤ ((256 ^ 3 : Nat) : Int) := by omega
  rw [Int.natCast_pow] at h6
  have h7 : ((256 ^ 3 : Nat) : Int) = 16777216 := by decide
  rw [h7] at h6
  have h8 : (((256 : Nat) : Int)) = 256 := rfl
  rw [h8] at h6
  refine ⟨h.1, by omega, ?_⟩
  rw [ob_step (by simp; omega), List.getElem?_drop, List.getD_eq_getElem?_getD]

set_option maxHeartbeats 1000000 in
theorem refNext_good (b off n cap P F U : Nat) (zs : List Int) (w : World) (h : Bs w (some ⟨b, off, none⟩) n cap zs) (hn : n ≤ 140737488351232) (hd : uvD zs (P : Int) = ((U : Int), (F : Int), 0))
    (hPF : P < F) (hT : F + U + 4 ≤ n) (hU : U ≤ 1048576) :
    Calls Try.prog 23 #[.slice (some ⟨b, off, none⟩) n cap, .int .i64 (P : Int)] w (NextPost w zs P) := by
  have HD := Lib.hid hd
  have HB := Lib.hid h
  have HV : Hid (uvV (uvD zs (P : Int)) = .tuple #[.int .u64 (U : Int), .int .i64 (F : Int), .int .i64 0]) := by rw [hd]; rfl
  have hncap : n ≤ cap := h.2.1
  obtain ⟨T, hTe⟩ : ∃ T : Nat, T = F + U := ⟨_, rfl⟩
  have hTn : T + 4 ≤ n := by omega
  have hpart := h.part (i := P) (j := T) (c := cap - P) (by omega) (by omega) (by omega)
  have hpay := h.part (i := F) (j := T) (c := cap - F) (by omega) (by omega) (by omega)
  have HTE : Hid ((F : Int) + (U : Int) = (T : Int)) := by rw [hTe]; exact (Int.natCast_add F U).symm
  have HTF : Hid (T - F = U) := by rw [hTe]; exact Nat.add_sub_cancel_left F U
  have hFT : F ≤ T := by omega
  have hPT : P < T := by omega
  have hTc : T ≤ cap := by omega
  have hFc : F < cap := by omega
  have hs : (U : Int) + 4 ≤ (n : Int) - (F : Int) := by omega
  obtain ⟨b', off', hbo, hbb, hcell⟩ := h.at_ (by omega)
  simp only [Option.some.injEq, Addr.mk.injEq, and_true] at hbo
  obtain ⟨rfl, rfl⟩ := hbo
  have HC := Lib.hid hcell
  have e1 : ((F : Int) + (U : Int)).toNat = T := by omega
  have e2 : ((F : Int) + (U : Int) - (P : Int)).toNat = T - P := by omega
  have e3 : (F : Int) + (U : Int) + 4 = (T : Int) + 4 := by omega
  have HNbad : Hid (ob ((zs.drop T).take 4) ≠ cs 0 ((zs.drop P).take (T - P)) → nx zs P = (14, [], 0)) := fun hx =>
    nx_sum hd (by omega) (by rw [h.len]; omega) (by rw [e1, e2, Int.toNat_natCast]; exact hx)
  have HNok : Hid (ob ((zs.drop T).take 4) = cs 0 ((zs.drop P).take (T - P)) → nx zs P = (0, (zs.drop F).take U, (T : Int) + 4)) := fun hx => by
    rw [nx_ok hd (by omega) (by rw [h.len]; omega) (by rw [e1, e2, Int.toNat_natCast]; exact hx), e3, Int.toNat_natCast, Int.toNat_natCast]
  clear h hd hcell hTe hT e1 e2 e3
  go_enter Try.func23, Try.ntmps23
  go_wp2_with fail
  refine (ruv_any _ _ _ (P : Int) zs _ HB.out (by omega)).mono ?_
  rintro e w1 ⟨rfl, rfl⟩
  rw [HV.out]
  go_wp2_with fail
  rw [HTE.out]
  go_loop [11, 12] (fun x i => ∃ (k : Nat) (C : Int), k ≤ 4 ∧ i = .int .i64 k ∧ x = .int .u32 C ∧ C = ob ((zs.drop T).take k)) (fun _ i => 4 - (intOf i).toNat)
  case atStart => exact ⟨0, 0, by omega, rfl, rfl, rfl⟩
  case round =>
    obtain ⟨k, C, hk, rfl, rfl, hC⟩ := hrel
    have HCC := Lib.hid hC
    clear hC
    by_cases hlt : k < 4
    · have hc := HC.out (T + k) (by omega)
      have hb := HB.out.byt.get (T + k)
      obtain ⟨hu0, hu1, hu2⟩ := ob_at4 HB.out.byt hlt (by rw [HB.out.len]; exact hTn)
      have HS := Lib.hid hu2
      rw [← HCC.out] at hu0 hu1
      clear hu2
      generalize zs.getD (T + k) 0 = c at hc hb HS
      obtain ⟨hb0, hb1⟩ := hb
      have hTk : (T : Int) + (k : Int) < (n : Int) := by omega
      go_wp2
      exact ⟨⟨k + 1, 256 * C + c, by omega, by go_num, rfl, by rw [HS.out, HCC.out]⟩, by simp [intOf]; omega⟩
    · obtain rfl : k = 4 := by omega
      go_wp2_with fail
      refine (refChecksum_any _ _ _ _ _ hpart (by omega)).mono ?_
      rintro e w1 ⟨rfl, rfl⟩
      generalize hD : cs 0 ((zs.drop P).take (T - P)) = D
      have HDD := Lib.hid hD
      clear hD
      by_cases he : C = D
      · have heq : (C != D) = false := by simp [he]
        have HN := Lib.hid (HNok.out (by rw [← HCC.out, HDD.out]; exact he))
        clear he
        go_wp2_with fail
        refine (join_any none _ 0 0 _ _ [] _ _ (Bs.nil_ _) hpay (by omega)).mono ?_
        rintro e w2 ⟨rfl, ho, hb⟩
        rw [List.nil_append, Nat.zero_add, HTF.out] at ho
        go_wp2
        go_ret3
        have hlen : ((zs.drop F).take U).length = U := by have := HB.out.len; simp; omega
        refine ⟨some ⟨w.heap.size, 0, none⟩, U, ?_, ?_, hb⟩
        · rw [HN.out]
          simp only [hlen]
          rw [← HTF.out]
          simp
        · rw [HN.out]
          simp only [hlen]
          exact Bs.own ho ((HB.out.byt.drop _).take _)
      · have hne : (C != D) = true := by simpa using he
        have HN := Lib.hid (HNbad.out (by rw [← HCC.out, HDD.out]; exact he))
        clear he
        go_wp2
        go_ret3
        exact NextPost.bad HN.out

set_option maxHeartbeats 1000000 in
theorem refNext_any (a : Option Addr) (n cap : Nat) (p : Int) (zs : List Int) (w : World) (h : Bs w a n cap zs) (hn : n ≤ 140737488351232) :
    Calls Try.prog 23 #[.slice a n cap, .int .i64 p] w (NextPost w zs p) := by
  obtain ⟨u, f, x, hd⟩ : ∃ u f x, uvD zs p = (u, f, x) := ⟨_, _, _, rfl⟩
  have HD := Lib.hid hd
  have HB := Lib.hid h
  have HV : Hid (uvV (uvD zs p) = .tuple #[.int .u64 u, .int .i64 f, .int .i64 x]) := by rw [hd]; rfl
  by_cases hx : x = 0
  · subst hx
    obtain ⟨hp0, hu0, hu1, hpf, hfn⟩ := uvD_ok h.byt hd
    rw [h.len] at hfn
    by_cases hbig : 1048576 < u
    · have HN := Lib.hid (nx_big hd hbig)
      clear h hd
      go_enter Try.func23, Try.ntmps23
      go_wp2_with fail
      refine (ruv_any _ _ _ p zs _ HB.out (by omega)).mono ?_
      rintro e w1 ⟨rfl, rfl⟩
      rw [HV.out]
      go_wp2
      go_ret3
      exact NextPost.bad HN.out
    · by_cases hs : (n : Int) - f < u + 4
      · have HN := Lib.hid (nx_short hd hbig (by rw [h.len]; exact hs))
        clear h hd
        go_enter Try.func23, Try.ntmps23
        go_wp2_with fail
        refine (ruv_any _ _ _ p zs _ HB.out (by omega)).mono ?_
        rintro e w1 ⟨rfl, rfl⟩
        rw [HV.out]
        go_wp2
        go_ret3
        exact NextPost.bad HN.out
      · obtain ⟨P, rfl⟩ := Int.eq_ofNat_of_zero_le hp0
        obtain ⟨U, rfl⟩ := Int.eq_ofNat_of_zero_le hu0
        obtain ⟨F, rfl⟩ := Int.eq_ofNat_of_zero_le (show 0 ≤ f by omega)
        obtain ⟨b, off, rfl, _, _⟩ := h.at_ (by omega)
        exact refNext_good b off n cap P F U zs w h hn hd (by omega) (by omega) (by omega)
  · have hne : (x != 0) = true := by simpa using hx
    have HN := Lib.hid (nx_uv hd hx)
    clear h hd hx
    go_enter Try.func23, Try.ntmps23
    go_wp2_with fail
    refine (ruv_any _ _ _ p zs _ HB.out (by omega)).mono ?_
    rintro e w1 ⟨rfl, rfl⟩
    rw [HV.out]
    go_wp2
    go_ret3
    exact NextPost.bad HN.out
end Go.Proofs.Ytdaenfhedepiaaa
