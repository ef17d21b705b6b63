/- Frames as plain lists of numbers: what a frame consists of, and what reading one at an index gives; a frame is read back. No program is spoken of. -/
import Derived.Test.YtdaenfhedepiaaaRefCrc
import Derived.Test.YtdaenfhedepiaaaWordUv
set_option linter.unusedVariables false
namespace Go.Proofs.Ytdaenfhedepiaaa
open Go

/-- the frame of a payload -/
def hd (zs : List Int) : List Int := vs 9 (zs.length : Int) ++ zs
def fr (zs : List Int) : List Int := hd zs ++ be 4 (cs 0 (hd zs))
theorem hd_len (zs : List Int) : (hd zs).length = (vs 9 (zs.length : Int)).length + zs.length := by simp [hd]
theorem fr_len (zs : List Int) : (fr zs).length = (hd zs).length + 4 := by simp [fr, be_len]
theorem fr_le (zs : List Int) : (fr zs).length ≤ zs.length + 14 ∧ zs.length + 5 ≤ (fr zs).length := by
  have := vs_len 9 (zs.length : Int)
  rw [fr_len, hd_len]; omega
theorem hd_byt {zs : List Int} (h : Byt zs) (hn : (zs.length : Int) < 18446744073709551616) : Byt (hd zs) := (vs9_byt _ (by omega) hn).app h
theorem fr_byt {zs : List Int} (h : Byt zs) (hn : (zs.length : Int) < 18446744073709551616) : Byt (fr zs) := (hd_byt h hn).app (be_byt 4 _)

/-- what reading a frame at p gives: the error's number, the payload, the next index -/
def nx (zs : List Int) (p : Int) : Int × List Int × Int :=
  if (uvD zs p).2.2 ≠ 0 then ((uvD zs p).2.2, [], 0)
  else if 1048576 < (uvD zs p).1 then (13, [], 0)
  else if (zs.length : Int) - (uvD zs p).2.1 < (uvD zs p).1 + 4 then (12, [], 0)
  else if ob ((zs.drop ((uvD zs p).2.1 + (uvD zs p).1).toNat).take 4) ≠ cs 0 ((zs.drop p.toNat).take ((uvD zs p).2.1 + (uvD zs p).1 - p).toNat) then (14, [], 0)
  else (0, (zs.drop (uvD zs p).2.1.toNat).take (uvD zs p).1.toNat, (uvD zs p).2.1 + (uvD zs p).1 + 4)
theorem nx_uv {zs : List Int} {p u f e : Int} (h : uvD zs p = (u, f, e)) (he : e ≠ 0) : nx zs p = (e, [], 0) := by unfold nx; rw [h, if_pos he]
theorem nx_big {zs : List Int} {p u f : Int} (h : uvD zs p = (u, f, 0)) (hu : 1048576 < u) : nx zs p = (13, [], 0) := by
  unfold nx; rw [h, if_neg (by simp), if_pos hu]
theorem nx_short {zs : List Int} {p u f : Int} (h : uvD zs p = (u, f, 0)) (hu : ¬ 1048576 < u) (hs : (zs.length : Int) - f < u + 4) : nx zs p = (12, [], 0) := by
  unfold nx; rw [h, if_neg (by simp), if_neg hu, if_pos hs]
theorem nx_sum {zs : List Int} {p u f : Int} (h : uvD zs p = (u, f, 0)) (hu : ¬ 1048576 < u) (hs : ¬ (zs.length : Int) - f < u + 4)
    (hc : ob ((zs.drop (f + u).toNat).take 4) ≠ cs 0 ((zs.drop p.toNat).take (f + u - p).toNat)) : nx zs p = (14, [], 0) := by
  unfold nx; rw [h, if_neg (by simp), if_neg hu, if_neg hs, if_pos hc]
theorem nx_ok {zs : List Int} {p u f : Int} (h : uvD zs p = (u, f, 0)) (hu : ¬ 1048576 < u) (hs : ¬ (zs.length : Int) - f < u + 4)
    (hc : ob ((zs.drop (f + u).toNat).take 4) = cs 0 ((zs.drop p.toNat).take (f + u - p).toNat)) : nx zs p = (0, (zs.drop f.toNat).take u.toNat, f + u + 4) := by
  unfold nx; rw [h, if_neg (by simp), if_neg hu, if_neg hs, if_neg (by simp [hc])]
/-- an index that a varint was read at, and the one behind it -/
theorem uvD_ok {zs : List Int} {p u f : Int} (hz : Byt zs) (h : uvD zs p = (u, f, 0)) : 0 ≤ p ∧ 0 ≤ u ∧ u < 18446744073709551616 ∧ p < f ∧ f ≤ zs.length := by
  by_cases hp : p < 0 ∨ (zs.length : Int) < p
  · unfold uvD at h; rw [if_pos hp] at h; simp at h
  · have hb := dec_bd 9 0 0 (zs.drop p.toNat) rfl (hz.drop _) (by decide) (by decide)
    unfold uvD at h
    rw [if_neg hp] at h
    simp only [Prod.mk.injEq] at h
    obtain ⟨hu, hf, he⟩ := h
    rw [if_pos he] at hf
    obtain ⟨X, m, hX0, _, hd, hm0, hm1, _⟩ := dec_canon 9 0 0 (zs.drop p.toNat) rfl (hz.drop _) he
    rw [hd] at hf hu hb
    simp at hf hu hb hm1
    omega
theorem nx_pay_le (zs : List Int) (p : Int) (n : Nat) (h : zs.length ≤ n) : (nx zs p).2.1.length ≤ n := by
  unfold nx
  split
  · simp
  · split
    · simp
    · split
      · simp
      · split
        · simp
        · simp; omega

/-! ### a frame is read back; a torn one is truncated -/
theorem be_ob4 (c : Int) (h0 : 0 ≤ c) (h1 : c < 4294967296) : ob (be 4 c) = c := by
  have e2 : c / 256 / 256 = c / 65536 := by omega
  have e3 : c / 65536 / 256 = c / 16777216 := by omega
  simp only [be, e2, e3, List.nil_append, List.cons_append, ob, List.foldl]
  omega
theorem uvD_at {xs l : List Int} {v m : Nat} (h : dec 0 0 l = ((v : Int), m, 0)) : uvD (xs ++ l) (xs.length : Int) = ((v : Int), ((xs.length + m : Nat) : Int), 0) := by
  unfold uvD
  rw [if_neg (by simp only [List.length_append]; omega), Int.toNat_natCast, List.drop_append_of_le_length (Nat.le_refl _), List.drop_length, List.nil_append, h]
  simp
theorem nx_back (xs P t : List Int) (hl : P.length ≤ 1048576) : nx (xs ++ (fr P ++ t)) (xs.length : Int) = (0, P, ((xs.length + (fr P).length : Nat) : Int)) := by
  have hlen := fr_len P
  have hhd := hd_len P
  have hd0 : dec 0 0 (fr P ++ t) = ((P.length : Int), (vs 9 (P.length : Int)).length, 0) := by
    have e : fr P ++ t = vs 9 (P.length : Int) ++ (P ++ be 4 (cs 0 (hd P)) ++ t) := by simp [fr, hd]
    rw [e, dec_vs9 _ _ (by omega) (by omega)]
  have hu := uvD_at (xs := xs) hd0
  obtain ⟨V, hV⟩ : ∃ V, V = (vs 9 (P.length : Int)).length := ⟨_, rfl⟩
  rw [← hV] at hu hhd
  have ef : ((xs.length + V : Nat) : Int) + (P.length : Int) = ((xs.length + (hd P).length : Nat) : Int) := by omega
  have h1 : (xs ++ (fr P ++ t)).drop (xs.length + (hd P).length) = be 4 (cs 0 (hd P)) ++ t := by
    rw [List.drop_append, List.drop_eq_nil_of_le (by omega), List.nil_append, show xs.length + (hd P).length - xs.length = (hd P).length by omega]
    unfold fr
    rw [List.append_assoc, List.drop_append_of_le_length (Nat.le_refl _), List.drop_length, List.nil_append]
  have h2 : (xs ++ (fr P ++ t)).drop xs.length = fr P ++ t := by
    rw [List.drop_append_of_le_length (Nat.le_refl _), List.drop_length, List.nil_append]
  have h3 : (xs ++ (fr P ++ t)).drop (xs.length + V) = P ++ (be 4 (cs 0 (hd P)) ++ t) := by
    rw [List.drop_append, List.drop_eq_nil_of_le (by omega), List.nil_append, show xs.length + V - xs.length = V by omega]
    unfold fr
    rw [show hd P = vs 9 (P.length : Int) ++ P from rfl, List.append_assoc, List.append_assoc, List.drop_append_of_le_length (by omega), List.drop_eq_nil_of_le (by omega), List.nil_append]
  have hc := cs_bd 0 (hd P)
  rw [nx_ok hu (by omega) (by simp only [List.length_append]; omega)]
  · rw [ef, Int.toNat_natCast, Int.toNat_natCast, h3, List.take_append_of_le_length (Nat.le_refl _), List.take_length]
    simp only [Prod.mk.injEq, true_and]
    omega
  · rw [ef, Int.toNat_natCast, h1, List.take_append_of_le_length (by rw [be_len]; exact Nat.le_refl _), List.take_of_length_le (by rw [be_len]; exact Nat.le_refl _), be_ob4 _ hc.1 hc.2, Int.toNat_natCast, h2]
    have e4 : (((xs.length + (hd P).length : Nat) : Int) - (xs.length : Int)).toNat = (hd P).length := by omega
    rw [e4]
    unfold fr
    rw [List.append_assoc, List.take_append_of_le_length (Nat.le_refl _), List.take_length]
theorem nx_torn (xs P : List Int) (k : Nat) (hl : P.length ≤ 1048576) (hk : k < (fr P).length) : nx (xs ++ (fr P).take k) (xs.length : Int) = (12, [], 0) := by
  have hlen := fr_len P
  have hhd := hd_len P
  obtain ⟨V, hV⟩ : ∃ V, V = (vs 9 (P.length : Int)).length := ⟨_, rfl⟩
  rw [← hV] at hhd
  by_cases hkv : k < V
  · have e : (fr P).take k = (vs 9 (P.length : Int)).take k := by
      unfold fr hd
      rw [List.append_assoc, List.take_append_of_le_length (by omega)]
    have hd0 : dec 0 0 ((fr P).take k) = (0, 0, 12) := by
      rw [e]; exact dec_cut 9 0 0 _ k rfl (Rest.zero (by omega) (by omega)) (by omega)
    refine nx_uv (u := 0) (f := 0) (e := 12) ?_ (by decide)
    unfold uvD
    rw [if_neg (by simp only [List.length_append]; omega), Int.toNat_natCast, List.drop_append_of_le_length (Nat.le_refl _), List.drop_length, List.nil_append, hd0]
    rfl
  · have hd0 : dec 0 0 ((fr P).take k) = ((P.length : Int), V, 0) := by
      have e : (fr P).take k = vs 9 (P.length : Int) ++ ((P ++ be 4 (cs 0 (hd P))).take (k - V)) := by
        have e1 : fr P = vs 9 (P.length : Int) ++ (P ++ be 4 (cs 0 (hd P))) := by simp [fr, hd]
        rw [e1, List.take_append, List.take_of_length_le (by omega), hV]
      rw [e, dec_vs9 _ _ (by omega) (by omega), hV]
    have hu := uvD_at (xs := xs) hd0
    refine nx_short hu (by omega) ?_
    simp only [List.length_append, List.length_take]
    omega
end Go.Proofs.Ytdaenfhedepiaaa
