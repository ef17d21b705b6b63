/- The walk of FrameSplits. -/
import Derived.Test.YtdaenfhedepiaaaAwake2
import Derived.Test.YtdaenfhedepiaaaSplit
import Derived.Test.YtdaenfhedepiaaaRowsIn
import Derived.Test.YtdaenfhedepiaaaMin4
set_option linter.unusedVariables false
namespace Go.Proofs.Ytdaenfhedepiaaa
open Go.RowKit

def pl (P : Nat → List Int) (k : Nat) : List (List Int) := (List.range k).map P
theorem pl_len (P : Nat → List Int) (k : Nat) : (pl P k).length = k := by simp [pl]
theorem pl_succ (P : Nat → List Int) (k : Nat) : pl P (k + 1) = pl P k ++ [P k] := by simp [pl, List.range_succ]
theorem pl_get (P : Nat → List Int) (k j : Nat) (h : j < k) : (pl P k).getD j [] = P j := by simp [pl, List.getD_eq_getElem?_getD, h]
theorem pl_mem {P : Nat → List Int} {k : Nat} {Q : List Int} (h : Q ∈ pl P k) : ∃ j, j < k ∧ Q = P j := by
  obtain ⟨j, hj, rfl⟩ := List.mem_map.1 h
  exact ⟨j, by simpa using hj, rfl⟩
theorem frs_le {ps : List (List Int)} (h : ∀ Q ∈ ps, Q.length ≤ 100) : (frs ps).length ≤ 114 * ps.length := by
  induction ps with
  | nil => simp [frs]
  | cons P ps ih =>
    have h1 := ih fun Q hQ => h Q (by simp [hQ])
    have h2 := h P (by simp)
    have h3 := (fr_le P).1
    simp [frs]; omega
/-- the length of the frames before the last one -/
def lastOf (P : Nat → List Int) : Nat → Nat
  | 0 => 0
  | k + 1 => (frs (pl P k)).length
def BuildRel (w : World) (n : Nat) (L : Nat → Nat) (P : Nat → List Int) (x y i : Value) (wr : World) : Prop :=
  ∃ (k : Nat) (a : Option Addr) (c : Nat), k ≤ n ∧ i = .int .i64 (k : Int) ∧ (∀ j, j < k → L j ≤ 100) ∧ x = .slice a (frs (pl P k)).length c ∧ Bs wr a (frs (pl P k)).length c (frs (pl P k)) ∧ y = .int .i64 ((lastOf P k : Nat) : Int) ∧ Below w.heap.size w wr

theorem own_val {w : World} {B n : Nat} {e : TypeId} {v : Value} {xs : List Value} (h : w.ownsRow B e 1 v n xs) : ∃ a c, v = .slice a n c := by
  rcases h.2 with ⟨rfl, rfl⟩ | ⟨g, cap, cur, rfl, _⟩
  · exact ⟨_, _, rfl⟩
  · exact ⟨_, _, rfl⟩
theorem cut_last {P : Nat → List Int} {k M : Nat} {B : List Int} (hB : B = frs (pl P k)) (hM : lastOf P k = M) (h0 : 0 < B.length) (h : ∀ Q ∈ pl P k, Q.length ≤ 100) :
    1 ≤ k ∧ Spl (B.take (B.length - 1)) (pl P (k - 1)) (M : Int) := by
  cases k with
  | zero => subst hB; simp [pl, frs] at h0
  | succ i =>
    refine ⟨by omega, ?_⟩
    have hM2 : (frs (pl P i)).length = M := hM
    rw [pl_succ, frs_snoc] at hB
    have h1 : (P i).length ≤ 100 := h _ (List.mem_map.2 ⟨i, by simp, rfl⟩)
    have hf := (fr_le (P i)).2
    have e : B.take (B.length - 1) = frs (pl P i) ++ (fr (P i)).take ((fr (P i)).length - 1) := by
      rw [hB, List.length_append, List.take_append, List.take_of_length_le (by omega)]
      congr 2
      omega
    rw [e, ← hM2, Nat.add_sub_cancel]
    refine (spl_frames (pl P i) (P i) _ (fun Q hQ => ?_) (by omega) (by omega)).1
    have := h Q (by rw [pl_succ]; exact List.mem_append_left _ hQ)
    omega
theorem own_head {w : World} {B n c : Nat} {e : TypeId} {a : Option Addr} {xs : List Value} (h : w.ownsRow B e 1 (.slice a n c) n xs) (h0 : 0 < n) : ∃ g, a = some ⟨g, 0, none⟩ := by
  rcases h.2 with ⟨_, hn⟩ | ⟨g, cap, cur, hv, _⟩
  · omega
  · simp only [Value.slice.injEq] at hv
    exact ⟨g, hv.1⟩
theorem bs_of_ownb {B : Nat} {w : World} {a : Option Addr} {c : Nat} {zs : List Int} (h : OwnB B w a c zs) : Bs w a zs.length c zs := by
  obtain ⟨h1, h2⟩ := h
  cases a with
  | none =>
    rcases h1.2 with ⟨hv, hn⟩ | ⟨g, cap, cur, hv, _⟩
    · simp only [Value.slice.injEq, true_and] at hv
      obtain rfl := List.eq_nil_of_length_eq_zero hn
      obtain rfl := hv.2
      exact Bs.nil_ _
    · simp at hv
  | some x =>
    rcases h1.2 with ⟨hv, hn⟩ | ⟨g, cap, cur, hv, _⟩
    · simp at hv
    · simp only [Value.slice.injEq, Option.some.injEq] at hv
      obtain ⟨rfl, _, rfl⟩ := hv
      exact Bs.own h1 h2
theorem quiet_same {a c : Option Addr} {n cap m cp d : Nat} {xs ys : List Int} {w : World} (h : Bs w a n cap xs) (h' : Bs w c m cp ys) (hn : n ≤ 281474976710656) :
    Calls Try.prog 20 #[.slice a n cap, .slice c m cp] (w.drewN d) fun e w' => e = .returned (.bool (decide (xs = ys))) ∧ ∃ q, w' = w.drewN q := by
  refine (same_any _ _ _ _ _ _ _ _ _ (h.drewN d) (h'.drewN d) hn).mono ?_
  rintro e w1 ⟨rfl, q, rfl⟩
  exact ⟨rfl, d + q, by rw [World.drewN_drewN]⟩
set_option maxHeartbeats 2000000 in
set_option maxRecDepth 100000 in
theorem splits_walk (a : Option Addr) (n cap : Nat) (A : Nat → Option Addr) (L C : Nat → Nat) (P : Nat → List Int) (w : World) (hnc : n ≤ cap) (h : RowsIn w a n A L C P) (hn : n ≤ 12) :
    Calls Try.prog 10 #[.slice a n cap] w fun e w' => e = .returned (.bool true) ∧ Below w.heap.size w w' := by
  have HR := Lib.hid h
  have hni : (n : Int) ≤ 12 := by omega
  clear h
  go_enter Try.func10, Try.ntmps10
  go_wp2
  go_loopw [3, 4, 5] (fun x y i wr => BuildRel w n L P x y i wr) (fun _ _ i _ => n - (intOf i).toNat)
  case atStart => exact ⟨0, none, 0, Nat.zero_le _, rfl, fun j hj => by omega, rfl, Bs.nil_ _, rfl, Below.refl _ _⟩
  case round =>
    obtain ⟨k, ba, bc, hk, rfl, hL, rfl, hb, rfl, hbl⟩ := hrel
    by_cases hlt : k < n
    · obtain ⟨b, off, rfl, hbb, hcell, hrow⟩ := (HR.out.below hbl) k hlt
      by_cases hl : 100 < L k
      · have hli : (100 : Int) < (L k : Int) := by omega
        generalize L k = Lk at hcell hli
        clear hrow hL hl
        go_wp2_with fail
        refine (awake_any _).mono ?_
        rintro e w1 ⟨rfl, hb1⟩
        go_wp2
        go_ret
        exact ⟨rfl, hbl.trans (hb1.mono hbl.size)⟩
      · have hli : (L k : Int) ≤ 100 := by omega
        have hle := frs_le (ps := pl P k) fun Q hQ => by
          obtain ⟨j, hj, rfl⟩ := pl_mem hQ
          obtain ⟨_, _, _, _, _, hr⟩ := (HR.out.below hbl) j (by omega)
          rw [hr.len]; exact hL j hj
        rw [pl_len] at hle
        have hS : (frs (pl P k)).length ≤ 1368 := by omega
        have hLk : L k ≤ 100 := by omega
        have HL := Lib.hid hL
        have HLK := Lib.hid hLk
        have hPk := hrow.len
        have HPK := Lib.hid hPk
        have hpos : 0 ≤ ((frs (pl P k)).length : Int) := by omega
        have HF := Lib.hid (frs_snoc (pl P k) (P k))
        have HP1 := Lib.hid (pl_succ P k)
        generalize hLk0 : L k = Lk at hcell hli hrow hPk HPK HLK
        have HLK0 := Lib.hid hLk0
        clear hLk0
        clear hL hl hle hPk hLk
        go_wp2_with fail
        refine (append_ok _ _ _ _ _ _ _ _ _ hb hrow (by omega) (by have := HLK.out; omega)).mono ?_
        rintro e w1 ⟨h1, _, hb1⟩
        obtain ⟨g, cp, rfl, hx⟩ := h1 (by have := HPK.out; have := HLK.out; omega)
        have hbl1 : Below w.heap.size w w1 := hbl.trans (hb1.mono hbl.size)
        clear h1 hb1 hb hrow hbl hcell
        go_wp2
        have hlen : (frs (pl P (k + 1))).length = (frs (pl P k)).length + (fr (P k)).length := by rw [HP1.out, HF.out]; simp
        refine ⟨⟨k + 1, _, cp, by omega, by go_num, fun j hj => ?_, by rw [hlen], by rw [hlen, HP1.out, HF.out]; exact hx, rfl, hbl1⟩, by simp [intOf]; omega⟩
        rcases Nat.lt_or_ge j k with hj2 | hj2
        · exact HL.out j hj2
        · obtain rfl : j = k := by omega
          rw [HLK0.out]; exact HLK.out
    · obtain rfl : k = n := by omega
      have hPL : ∀ Q ∈ pl P k, Q.length ≤ 100 := fun Q hQ => by
        obtain ⟨j, hj, rfl⟩ := pl_mem hQ
        obtain ⟨_, _, _, _, _, hr⟩ := (HR.out.below hbl) j (by omega)
        rw [hr.len]; exact hL j hj
      have hle := frs_le hPL
      rw [pl_len] at hle
      have hsp := spl_whole (pl P k) fun Q hQ => by have := hPL Q hQ; omega
      have HPL := Lib.hid hPL
      have HSP := Lib.hid hsp
      have HBL := Lib.hid hb.len
      obtain ⟨B, hB⟩ : ∃ B, B = frs (pl P k) := ⟨_, rfl⟩
      rw [← hB] at hb hle HSP HBL
      have HB := Lib.hid hB
      clear hB hsp hPL hL
      obtain ⟨N, hN⟩ : ∃ N, N = B.length := ⟨_, rfl⟩
      have HN := Lib.hid hN
      have e1 : (frs (pl P k)).length = N := by rw [← HB.out, hN]
      rw [← hN] at hb hle HSP
      rw [e1]
      clear hN e1
      have hN2 : N ≤ 1368 := by omega
      generalize hlast : lastOf P k = M
      have HM := Lib.hid hlast
      clear hle hlast
      go_wp2_with fail
      refine (split_any _ _ _ B _ hb (by omega)).mono ?_
      rintro e w1 ⟨ps, q, xs, v, rfl, hown, hpay, hspl, hb1⟩
      obtain ⟨e1, e2⟩ := spl_unique hspl HSP.out
      have e3 : q = N := by omega
      subst e3
      have hown2 : w1.ownsRow wr.heap.size 22 1 v k xs := by rw [e1, pl_len] at hown; exact hown
      rw [e1] at hpay
      obtain ⟨va, vc, rfl⟩ := own_val hown2
      have hbb := hb.below hb1
      have hbl1 : Below w.heap.size w w1 := hbl.trans (hb1.mono hbl.size)
      clear hspl e1 e2 hown hb hbl hb1
      go_wp2_with fail
      refine (awake_any _).mono ?_
      rintro e w2 ⟨rfl, hb2⟩
      have hown3 := own_keep hown2 hb2
      have hpay3 := hpay.keep hb2
      have hbb2 := hbb.below hb2
      have hbl2 : Below w.heap.size w w2 := hbl1.trans (hb2.mono hbl1.size)
      clear hown2 hpay hbb hbl1 hb2
      go_wp2
      go_loopw [10] (fun i wr => ∃ (j d : Nat), j ≤ k ∧ i = .int .i64 (j : Int) ∧ wr = w2.drewN d) (fun i _ => k - (intOf i).toNat)
      case atStart => exact ⟨0, 0, Nat.zero_le _, rfl, rfl⟩
      case round =>
        obtain ⟨j, d, hj, rfl, rfl⟩ := hrel
        by_cases hlt2 : j < k
        · obtain ⟨g, rfl⟩ := own_head hown3 (by omega)
          obtain ⟨pa, pc, hxs, hpo⟩ := hpay3.2 j (by rw [pl_len]; exact hlt2)
          rw [pl_get P k j hlt2] at hxs hpo
          have hc1 := hown3.cellAt j (by omega)
          rw [hxs] at hc1
          have hbs := bs_of_ownb hpo
          obtain ⟨b, off, rfl, hlb, hc2, hrow⟩ := (HR.out.below hbl2) j hlt2
          have HO := Lib.hid hown3
          have hb1 := hbs.drewN d
          have hb2 := hrow.drewN d
          have hw1 : (w2.drewN d).cell? ⟨g, j, none⟩ = _ := hc1
          have hw2 : (w2.drewN d).cell? ⟨b, off + j, none⟩ = _ := hc2
          have hpn : (P j).length ≤ 100 := HPL.out _ (List.mem_map.2 ⟨j, by simpa using hlt2, rfl⟩)
          generalize hwd : w2.drewN d = wd at hb1 hb2 hw1 hw2
          have HWD := Lib.hid hwd
          clear hown3 hxs hpo hbs hrow hc1 hc2 hwd
          generalize hLP : (P j).length = lp at hw1 hb1 hpn
          have HLP := Lib.hid hLP
          clear hLP
          have ht : decide (P j = P j) = true := decide_eq_true rfl
          have hji : (j : Int) < (k : Int) := by omega
          go_wp2
          go_quiet ((go_at_call 20; exact quiet_same hb1 hb2 (by omega)))
          go_wp2
          exact ⟨⟨j + 1, d + nq, by omega, by go_num, by rw [← HWD.out, World.drewN_drewN]⟩, by simp [intOf]; omega⟩
        · obtain rfl : j = k := by omega
          have hb3 := hbb2.drewN d
          have hbl3 := below_drewN hbl2 d
          generalize w2.drewN d = w3 at hb3 hbl3
          clear hbb2 hbl2 hpay3 hown3
          by_cases hq : q = 0
          · subst hq
            go_wp2
            go_ret
            exact ⟨rfl, hbl3⟩
          · have hqi : ((q : Int) == 0) = false := by simp; omega
            have hq1 : (1 : Int) ≤ (q : Int) := by omega
            have hpre := hb3.pre (k := q - 1) (by omega)
            have hqc : (q : Int) - 1 ≤ (bc : Int) := by have := hb3.2.1; omega
            have hqn : ((q : Int) - 1).toNat = q - 1 := by omega
            obtain ⟨hj1, hcut⟩ := cut_last HB.out HM.out (by rw [← HN.out]; omega) HPL.out
            rw [← HN.out] at hcut
            have HC := Lib.hid hcut
            have hji : (1 : Int) ≤ (j : Int) := by omega
            clear hcut hb3 hq
            go_wp2_with fail
            refine (split_any _ _ _ _ _ hpre (by omega)).mono ?_
            rintro e w4 ⟨ps2, q2, xs2, v2, rfl, hown4, _, hspl2, hb4⟩
            obtain ⟨e1, e2⟩ := spl_unique hspl2 HC.out
            have e3 : q2 = M := by omega
            subst e3
            have hown5 : w4.ownsRow w3.heap.size 22 1 v2 (j - 1) xs2 := by rw [e1, pl_len] at hown4; exact hown4
            obtain ⟨va2, vc2, rfl⟩ := own_val hown5
            have hbl4 : Below w.heap.size w w4 := hbl3.trans (hb4.mono hbl3.size)
            have hjn : (((j - 1 : Nat)) : Int) = (j : Int) - 1 := by omega
            clear e1 e2 hown4 hown5 hspl2 hb4 hpre hbl3
            go_wp2
            go_ret
            exact ⟨rfl, hbl4⟩

theorem splits_many (a : Option Addr) (n cap : Nat) (w : World) (hm : cap ≤ maxLen) (hnc : n ≤ cap) (hn : 12 < n) :
    Calls Try.prog 10 #[.slice a n cap] w fun e w' => e = .returned (.bool true) ∧ Below w.heap.size w w' := by
  unfold maxLen at hm
  have hni : (12 : Int) < (n : Int) := by omega
  go_enter Try.func10, Try.ntmps10
  go_wp2_with fail
  refine (awake_any _).mono ?_
  rintro e w1 ⟨rfl, hb⟩
  go_wp2
  go_ret
  exact ⟨rfl, hb⟩
end Go.Proofs.Ytdaenfhedepiaaa
