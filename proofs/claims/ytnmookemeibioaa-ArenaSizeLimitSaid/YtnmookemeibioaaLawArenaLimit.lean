/- The walk of ArenaSizeLimit. -/
import Derived.Test.YtnmookemeibioaaArenaLaw
set_option linter.unusedVariables false
namespace Go.Proofs.Ytnmookemeibioaa
open Go.RowKit
def LimRel (I : AImpl) (w : World) (p : Value) (x s i : Value) (wr : World) : Prop :=
  ∃ (k P : Nat) (A : Ar) (rd : Int) (root : Nat) (held : Nat → Nat), k ≤ 31 ∧ P = 2 ^ k ∧ i = .int .i64 (k : Int) ∧ x = .int .u32 (root : Int) ∧ s = .int .i64 ((P : Int) - 1) ∧ TA I w.heap.size w wr p A rd held ∧ A.Idx root ∧ root < 4294967296 ∧ A.sz root = (P : Int) - 1 ∧ A.σ.free.length + k = 40 ∧ 0 ≤ rd ∧ rd ≤ (k : Int) ∧ ∀ j, held j ≤ k
theorem pow_le {k : Nat} (h : k ≤ 30) : 2 ^ k ≤ 1073741824 := by
  have := Nat.pow_le_pow_right (n := 2) (by decide) h
  simpa using this
set_option maxHeartbeats 2000000 in
set_option maxRecDepth 100000 in
theorem limit_walk (I : AImpl) (v : Int) (w : World) (hv1 : -9223372036854775808 ≤ v) (hv2 : v ≤ 9223372036854775807) :
    Calls Try.prog 9 #[.int .i64 v] w fun e w' => e = .returned (.bool true) ∧ Below w.heap.size w w' := by
  go_enter Try.func9, Try.ntmps9
  go_wp2_with fail
  refine (ta_new I 40 40 _ (by decide) (by decide) rfl).mono ?_
  rintro e w1 ⟨a, rfl, h⟩
  go_wp2_with fail
  refine (awake_any I _).mono ?_
  rintro e w2 ⟨rfl, hb2⟩
  have h2 := h.calm hb2
  clear h hb2
  go_wp2
  go_loopw [5, 6, 7] (fun x s i wr => LimRel I w (.pointer (some a)) x s i wr) (fun _ _ i _ => 40 - (intOf i).toNat)
  case atStart => exact ⟨0, 1, _, _, 0, _, by decide, rfl, rfl, rfl, rfl, h2, .inl rfl, by decide, rfl, by simp [Ar.init, St.init], by decide, by decide, fun _ => Nat.le_refl _⟩
  case round =>
    clear h2
    obtain ⟨k, P, A, rd, root, held, hk, hP, rfl, rfl, rfl, h, hidx, hroot, hsz, hfl, hrd0, hrd1, hmm⟩ := hrel
    have HMM := Lib.hid hmm
    have hm : ∀ j, held j ≤ 1048576 := fun j => by have := hmm j; omega
    have HM := Lib.hid hm
    clear hmm hm
    have hki : (k : Int) ≤ 31 := by omega
    have hki0 : (0 : Int) ≤ (k : Int) := by omega
    have hsize : (A.node (k : Int) v root root).size = 1 + ((P : Int) - 1) + ((P : Int) - 1) := by
      show 1 + A.sz root + A.sz root = _
      rw [hsz]
    have hargs : Args (k : Int) v root root := ⟨⟨by omega, by omega⟩, ⟨hv1, hv2⟩, hroot, hroot⟩
    by_cases h30 : k ≤ 30
    · have hP2 : P ≤ 1073741824 := by rw [hP]; exact pow_le h30
      have hP1 : 1 ≤ P := by rw [hP]; exact Nat.one_le_two_pow
      have hPi : (P : Int) ≤ 1073741824 := by omega
      have hPi1 : (1 : Int) ≤ (P : Int) := by omega
      obtain ⟨i, t, hf⟩ : ∃ i t, A.σ.free = i :: t := by
        cases hc : A.σ.free with
        | nil => rw [hc] at hfl; simp at hfl; omega
        | cons i t => exact ⟨i, t, rfl⟩
      have htl : t.length + (k + 1) = 40 := by rw [hf, List.length_cons] at hfl; omega
      have him := (h.inv.ok.free i).1 (by rw [hf]; simp)
      have hcap := h.inv.ok.cap2
      have hi4 : i < 4294967296 := by omega
      have hi0 : i ≠ 0 := by omega
      have hs2 : (A.node (k : Int) v root root).size ≤ 2147483647 := by rw [hsize]; omega
      have HF := Lib.hid hf
      have HT := Lib.hid htl
      have HSZ := Lib.hid hsize
      have HPP := Lib.hid hP
      clear hf hfl htl him hcap hP hP2 hP1 hsize
      go_wp2_with fail
      refine (ta_make h HM.out rfl rfl hargs hidx hidx hs2 HF.out).mono ?_
      rintro e w3 ⟨rfl, h3⟩
      clear h hargs hidx hs2
      have hnd : ((A.made i t (A.node (k : Int) v root root)).nd i).size = 2 * ((P : Int) - 1) + 1 := by
        rw [show (A.made i t (A.node (k : Int) v root root)).nd i = A.node (k : Int) v root root from if_pos rfl, HSZ.out]; omega
      have hon : (A.made i t (A.node (k : Int) v root root)).σ.on i = true := take_same _ _ _
      have hfl2 : (A.made i t (A.node (k : Int) v root root)).σ.free.length + (k + 1) = 40 := HT.out
      generalize A.made i t (A.node (k : Int) v root root) = A2 at h3 hnd hon hfl2
      have HND := Lib.hid hnd
      have HFL := Lib.hid hfl2
      have hne : ((2 * ((P : Int) - 1) + 1) != (2 * ((P : Int) - 1) + 1)) = false := by simp
      clear hnd hfl2
      go_wp2_with fail
      refine (ta_size h3 (i := i) rfl hrd0 (by omega) hon).mono ?_
      rintro e w4 ⟨rfl, h4⟩
      rw [HND.out]
      clear h3
      go_wp2
      refine ⟨⟨k + 1, 2 * P, A2, rd + 1, i, _, by omega, by rw [HPP.out, Nat.pow_succ]; omega, by go_num, rfl, ?_, h4, .inr hon, hi4, ?_, HFL.out, by omega, by omega, more_small HMM.out i⟩, by simp [intOf]; omega⟩
      · congr 1; omega
      · unfold Ar.sz; rw [if_neg hi0, HND.out]; omega
    · obtain rfl : k = 31 := by omega
      have hP2 : P = 2147483648 := by rw [hP]
      subst hP2
      have hbad : ¬ (A.Idx root ∧ A.Idx root ∧ (A.node ((31 : Nat) : Int) v root root).size ≤ 2147483647) := by
        rintro ⟨_, _, h9⟩
        rw [hsize] at h9
        omega
      have hf9 : A.σ.free.length = 9 := by omega
      have H9 := Lib.hid hf9
      clear hsize hfl hf9 hP
      go_wp2_with fail
      refine (ta_make_bad h HM.out rfl rfl hargs hbad).mono ?_
      rintro e w3 ⟨rfl, h3⟩
      clear h hargs hbad
      go_wp2_with fail
      refine (ta_free h3).mono ?_
      rintro e w4 ⟨rfl, h4⟩
      rw [H9.out]
      have hb := h4.below
      clear h3 h4
      go_wp2
      go_ret
      exact ⟨rfl, hb⟩
end Go.Proofs.Ytnmookemeibioaa
