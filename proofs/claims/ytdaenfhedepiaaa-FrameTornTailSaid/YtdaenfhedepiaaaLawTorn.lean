/- The walk of FrameTornTail. -/
import Derived.Test.YtdaenfhedepiaaaLawSplits
set_option linter.unusedVariables false
namespace Go.Proofs.Ytdaenfhedepiaaa
open Go.RowKit

theorem intInfo : (Try.prog.info? 3).map (fun i => (i.zero, i.size, i.bytes)) = some (some (.int .i64 0), 1, 8) := by kernel_rfl

theorem own_apart {w w' : World} {B B' m n : Nat} {e1 e2 : TypeId} {x v : Value} {xs ys : List Value} (hne : e1 ≠ e2) (h5 : w.ownsRow B e1 1 x n xs) (h22 : w.ownsRow B' e2 1 v m ys) (hg : w.grownBy w' v.ownBlock) : w'.ownsRow B e1 1 x n xs := by
  refine ⟨h5.1, ?_⟩
  rcases h5.2 with h | ⟨g, cap, cur, rfl, hb, hc, r⟩
  · exact .inl h
  · have hlt : g < w.heap.size := by
      rcases Nat.lt_or_ge g w.heap.size with hlt | hge
      · exact hlt
      · rw [Array.getElem?_eq_none hge] at hc; cases hc
    refine .inr ⟨g, cap, cur, rfl, hb, (hg.block g hlt fun e => ?_).trans hc, r⟩
    rcases h22.2 with ⟨rfl, _⟩ | ⟨g2, cap2, cur2, rfl, _, hc2, _⟩
    · simp [Value.ownBlock] at e
    · simp only [Value.ownBlock, Option.some.injEq] at e
      subst e
      rw [hc] at hc2
      simp at hc2
      exact hne hc2.2
/-- the end of each frame -/
def endOf (P : Nat → List Int) (j : Nat) : Nat := (frs (pl P (j + 1))).length
def ends (P : Nat → List Int) (k : Nat) : List Value := (List.range k).map fun j => .int .i64 ((endOf P j : Nat) : Int)
theorem ends_succ (P : Nat → List Int) (k : Nat) : ends P (k + 1) = ends P k ++ [.int .i64 ((endOf P k : Nat) : Int)] := by simp [ends, List.range_succ]
theorem ends_len (P : Nat → List Int) (k : Nat) : (ends P k).length = k := by simp [ends]
theorem ends_get (P : Nat → List Int) (k j : Nat) (h : j < k) : (ends P k)[j]? = some (.int .i64 ((endOf P j : Nat) : Int)) := by simp [ends, h]
theorem frs_mono (P : Nat → List Int) {j k : Nat} (h : j ≤ k) : (frs (pl P j)).length ≤ (frs (pl P k)).length := by
  induction k with
  | zero => obtain rfl : j = 0 := by omega
            exact Nat.le_refl _
  | succ k ih =>
    rcases Nat.lt_or_ge k j with h1 | h1
    · obtain rfl : j = k + 1 := by omega
      exact Nat.le_refl _
    · have := ih h1
      rw [pl_succ, frs_snoc, List.length_append]
      omega
/-- a cut behind j frames and before the next one's end -/
theorem cut_at {P : Nat → List Int} {k j m : Nat} {B : List Int} (hB : B = frs (pl P k)) (hj : j ≤ k) (h1 : (frs (pl P j)).length ≤ m) (h2 : j < k → m < endOf P j) (h3 : m ≤ B.length) (h : ∀ Q ∈ pl P k, Q.length ≤ 100) :
    Spl (B.take m) (pl P j) (((frs (pl P j)).length : Nat) : Int) ∧ nx (B.take m) (((frs (pl P j)).length : Nat) : Int) = (12, [], 0) := by
  have hQ : ∀ i, i < k → (P i).length ≤ 1048576 := fun i hi => by
    have := h _ (List.mem_map.2 ⟨i, by simpa using hi, rfl⟩)
    omega
  have hall : ∀ Q ∈ pl P j, Q.length ≤ 1048576 := fun Q hQ2 => by
    obtain ⟨i, hi, rfl⟩ := pl_mem hQ2
    exact hQ i (by omega)
  by_cases hjk : j < k
  · have hm := h2 hjk
    unfold endOf at hm
    rw [pl_succ, frs_snoc, List.length_append] at hm
    obtain ⟨t, ht⟩ : ∃ t, frs (pl P k) = frs (pl P j) ++ (fr (P j) ++ t) := by
      have e : pl P k = pl P (j + 1) ++ (pl P k).drop (j + 1) := by
        have e1 : (pl P k).take (j + 1) = pl P (j + 1) := by
          unfold pl
          rw [← List.map_take, List.take_range, Nat.min_eq_left (by omega)]
        rw [← e1, List.take_append_drop]
      have e2 := congrArg frs e
      rw [frs_app, pl_succ, frs_snoc, List.append_assoc] at e2
      exact ⟨_, e2⟩
    have e : B.take m = frs (pl P j) ++ (fr (P j)).take (m - (frs (pl P j)).length) := by
      rw [hB, ht, List.take_append, List.take_of_length_le h1, List.take_append_of_le_length (by omega)]
    rw [e]
    exact spl_frames _ _ _ hall (hQ j hjk) (by omega)
  · obtain rfl : j = k := by omega
    rw [← hB] at h1
    have e : B.take m = frs (pl P j) ++ (fr []).take 0 := by
      rw [List.take_of_length_le h1, hB]; simp
    rw [e]
    exact spl_frames _ _ _ hall (by simp) (by rw [fr_len]; omega)

def BuildRel2 (w : World) (n : Nat) (L : Nat → Nat) (P : Nat → List Int) (x y i : Value) (wr : World) : Prop :=
  ∃ (k : Nat) (a : Option Addr) (c : Nat), k ≤ n ∧ i = .int .i64 (k : Int) ∧ (∀ j, j < k → L j ≤ 100) ∧ x = .slice a (frs (pl P k)).length c ∧ OwnB w.heap.size wr a c (frs (pl P k)) ∧ wr.ownsRow w.heap.size 3 1 y k (ends P k) ∧ Below w.heap.size w wr
def CutRel (w3 : World) (P : Nat → List Int) (k m : Nat) (x y i : Value) (wr : World) : Prop :=
  ∃ (j d : Nat), j ≤ k ∧ i = .int .i64 (j : Int) ∧ x = .int .i64 (j : Int) ∧ y = .int .i64 (((frs (pl P j)).length : Nat) : Int) ∧ (frs (pl P j)).length ≤ m ∧ wr = w3.drewN d

set_option maxHeartbeats 2000000 in
set_option maxRecDepth 100000 in
theorem torn_walk (a : Option Addr) (n cap : Nat) (cut : Int) (A : Nat → Option Addr) (L C : Nat → Nat) (P : Nat → List Int) (w : World) (hnc : n ≤ cap) (h : RowsIn w a n A L C P) (hn : n ≤ 12)
    (hc1 : -9223372036854775808 ≤ cut) (hc2 : cut ≤ 9223372036854775807) :
    Calls Try.prog 11 #[.slice a n cap, .int .i64 cut] w fun e w' => e = .returned (.bool true) ∧ Below w.heap.size w w' := by
  obtain ⟨i0, hi, hz0, hz1, hz2⟩ := info_parts intInfo
  have HR := Lib.hid h
  have hni : (n : Int) ≤ 12 := by omega
  clear h
  go_enter Try.func11, Try.ntmps11
  go_wp2
  go_loopw [5, 6, 7] (fun x y i wr => BuildRel2 w n L P x y i wr) (fun _ _ i _ => n - (intOf i).toNat)
  case atStart => exact ⟨0, none, 0, Nat.zero_le _, rfl, fun j hj => by omega, rfl, ⟨World.ownsRow_nil _ _ _ _, Byt.nil⟩, World.ownsRow_nil _ _ _ _, Below.refl _ _⟩
  case round =>
    obtain ⟨k, ba, bc, hk, rfl, hL, rfl, hbo, hown, hbl⟩ := hrel
    have hb := bs_of_ownb hbo
    clear hbo
    by_cases hlt : k < n
    · obtain ⟨b, off, rfl, hbb, hcell, hrow⟩ := (HR.out.below hbl) k hlt
      by_cases hl : 100 < L k
      · have hli : (100 : Int) < (L k : Int) := by omega
        generalize L k = Lk at hcell hli
        clear hrow hL hl
        go_wp2_with fail
        refine (awake_any _).mono ?_
        rintro e w1 ⟨rfl, hb1⟩
        go_wp2
        go_ret
        exact ⟨rfl, hbl.trans (hb1.mono hbl.size)⟩
      · have hli : (L k : Int) ≤ 100 := by omega
        have hle := frs_le (ps := pl P k) fun Q hQ => by
          obtain ⟨j, hj, rfl⟩ := pl_mem hQ
          obtain ⟨_, _, _, _, _, hr⟩ := (HR.out.below hbl) j (by omega)
          rw [hr.len]; exact hL j hj
        rw [pl_len] at hle
        have hLk : L k ≤ 100 := by omega
        have HL := Lib.hid hL
        have HLK := Lib.hid hLk
        have hPk := hrow.len
        have HPK := Lib.hid hPk
        have hfb := fr_byt hrow.byt (by omega)
        have hfl := fr_le (P k)
        have HF := Lib.hid (frs_snoc (pl P k) (P k))
        have HP1 := Lib.hid (pl_succ P k)
        have HE := Lib.hid (ends_succ P k)
        generalize hLk0 : L k = Lk at hcell hli hrow hPk HPK HLK
        have HLK0 := Lib.hid hLk0
        obtain ⟨S, hS⟩ : ∃ S, S = (frs (pl P k)).length := ⟨_, rfl⟩
        have HS := Lib.hid hS
        rw [← hS] at hb hle
        rw [← hS]
        have hfn : (fr (P k)).length ≤ 114 := by omega
        obtain ⟨F, hF⟩ : ∃ F, F = (fr (P k)).length := ⟨_, rfl⟩
        have HFL := Lib.hid hF
        rw [← hF] at hfn
        have hS2 : S ≤ 1368 := by omega
        clear hLk0 hL hl hPk hLk hS hF hfl hle
        go_wp2_with fail
        refine (refFrame_any _ _ _ (P k) _ hrow (by have := HLK.out; omega)).mono ?_
        rintro e w1 ⟨g1, c1, rfl, ho1, hb1⟩
        have hf1 := Bs.own ho1 hfb
        rw [← HFL.out] at hf1
        rw [← HFL.out]
        have hx1 := hb.below hb1
        have hown1 := own_keep hown hb1
        have hbl1 : Below w.heap.size w w1 := hbl.trans (hb1.mono hbl.size)
        clear ho1 hb1 hb hown hbl hrow hcell
        go_wp2_with fail
        refine (join_any _ _ _ _ _ _ _ _ _ hx1 hf1 (by omega)).mono ?_
        rintro e w2 ⟨rfl, ho2, hb2⟩
        have hx2 := own_mono ho2 hbl1.size
        have hxb := hx1.byt.app hf1.byt
        have hown2 := own_keep hown1 hb2
        have hbl2 : Below w.heap.size w w2 := hbl1.trans (hb2.mono hbl1.size)
        generalize w1.heap.size = gx at hx2 ⊢
        clear ho2 hb2 hx1 hf1 hown1 hbl1
        have hal : Below w2.heap.size w2 (w2.alloc (Obj.cells #[Value.int IntKind.i64 ((S + F : Nat) : Int)] 3)) := (Below.refl _ _).alloc (Nat.le_refl _) _
        have hown3 := own_keep hown2 hal
        have hx3 := own_keep hx2 hal
        have hbl3 : Below w.heap.size w (w2.alloc (Obj.cells #[Value.int IntKind.i64 ((S + F : Nat) : Int)] 3)) := hbl2.trans (hal.mono hbl2.size)
        clear hal hown2 hx2
        go_wp2_with (at_builtin; refine wpList_append_own _ rfl (.tmp 41) (.tmp 44) 46 rfl w.heap.size 3 i0 (.int .i64 0) 1 8 Try.underlying46 hi hz0 hz1 hz2 rfl (by decide) _ k (ends P k) rfl hown3 ⟨w2.heap.size, 0, none⟩ 1 1 [.int .i64 ((S + F : Nat) : Int)] rfl rfl (cell_new1 _ _ _) (one_cell1 _ _) (by unfold maxLen; omega) (by omega) hbl3.size ?_; intro v' w' hown' hgrow hnz)
        have hx4 := own_apart (by decide) hx3 hown3 hgrow
        have hbl4 : Below w.heap.size w w' := hbl3.grown hgrow hbl3.size (own_from hown3)
        have hlen : (frs (pl P (k + 1))).length = S + F := by rw [HP1.out, HF.out, List.length_append, ← HS.out, ← HFL.out]
        have hee : endOf P k = S + F := hlen
        refine ⟨⟨k + 1, _, S + F, by omega, by go_num, fun j hj => ?_, by rw [hlen], ⟨?_, by rw [HP1.out, HF.out]; exact hxb⟩, by rw [HE.out, hee]; exact hown', hbl4⟩, by simp [intOf]; omega⟩
        · rcases Nat.lt_or_ge j k with hj2 | hj2
          · exact HL.out j hj2
          · obtain rfl : j = k := by omega
            rw [HLK0.out]; exact HLK.out
        · rw [hlen, HP1.out, HF.out]; exact hx4
    · obtain rfl : k = n := by omega
      have hPL : ∀ Q ∈ pl P k, Q.length ≤ 100 := fun Q hQ => by
        obtain ⟨j, hj, rfl⟩ := pl_mem hQ
        obtain ⟨_, _, _, _, _, hr⟩ := (HR.out.below hbl) j (by omega)
        rw [hr.len]; exact hL j hj
      have hle := frs_le hPL
      rw [pl_len] at hle
      have HPL := Lib.hid hPL
      obtain ⟨B, hB⟩ : ∃ B, B = frs (pl P k) := ⟨_, rfl⟩
      rw [← hB] at hb hle
      have HB := Lib.hid hB
      clear hPL hL
      obtain ⟨N, hN⟩ : ∃ N, N = B.length := ⟨_, rfl⟩
      have HN := Lib.hid hN
      have e1 : (frs (pl P k)).length = N := by rw [← HB.out, hN]
      rw [← hN] at hb hle
      rw [e1]
      have HE1 := Lib.hid e1
      clear hN e1 hB
      have hN2 : N ≤ 1368 := by omega
      obtain ⟨m, hm⟩ := Int.eq_ofNat_of_zero_le (Int.emod_nonneg cut (b := (N : Int) + 1) (by omega))
      have hm2 := Int.emod_lt_of_pos cut (b := (N : Int) + 1) (by omega)
      rw [hm] at hm2
      have hm3 : m ≤ N := by omega
      have HM := Lib.hid hm
      clear hle hm hm2
      obtain ⟨va, vc, rfl⟩ := own_val hown
      go_wp2_with fail
      refine (mod_any cut _ _ hc1 hc2 (by omega) (by omega)).mono ?_
      rintro e w1 ⟨rfl, rfl⟩
      rw [HM.out]
      go_wp2
      go_loopw [9, 10, 11] (fun x y i wr' => CutRel wr P k m x y i wr') (fun _ _ i _ => k - (intOf i).toNat)
      case atStart => exact ⟨0, 0, Nat.zero_le _, rfl, rfl, rfl, Nat.zero_le _, rfl⟩
      case round =>
        obtain ⟨j, d, hj, rfl, rfl, rfl, hjm, rfl⟩ := hrel
        by_cases hin : j < k ∧ endOf P j ≤ m
        · obtain ⟨hlt2, hE⟩ := hin
          obtain ⟨g, rfl⟩ := own_head hown (by omega)
          have hc1 := hown.cellAt j (by omega)
          rw [ends_get P k j hlt2] at hc1
          have hw1 : (wr.drewN d).cell? ⟨g, j, none⟩ = _ := hc1
          have hji : (j : Int) < (k : Int) := by omega
          have hend : endOf P j ≤ N := by rw [← HE1.out]; exact frs_mono P (show j + 1 ≤ k by omega)
          have HEE : Hid (endOf P j = (frs (pl P (j + 1))).length) := Lib.hid rfl
          generalize endOf P j = E at hw1 hend HEE hE
          generalize hF0 : (frs (pl P j)).length = F0 at hjm
          generalize hwd : wr.drewN d = wd at hw1
          have HWD := Lib.hid hwd
          have HEM := Lib.hid hE
          have hEi : (E : Int) ≤ (m : Int) := by omega
          clear hc1 hF0 hwd hown hE
          go_wp2
          go_quiet (fail)
          go_wp2
          exact ⟨⟨j + 1, d + nq, by omega, by go_num, by go_num, by rw [← HEE.out], by rw [← HEE.out]; exact HEM.out, by rw [← HWD.out, World.drewN_drewN]⟩, by simp [intOf]; omega⟩
        · have hout : j < k → m < endOf P j := fun h => by
            rcases Nat.lt_or_ge m (endOf P j) with h2 | h2
            · exact h2
            · exact absurd ⟨h, h2⟩ hin
          obtain ⟨hC, hX⟩ := cut_at HB.out hj hjm hout (by rw [← HN.out]; exact hm3) HPL.out
          have HC := Lib.hid hC
          have HX := Lib.hid hX
          have hpre := (hb.pre (k := m) hm3).drewN d
          have hbl2 := below_drewN hbl d
          have hmc : (m : Int) ≤ (bc : Int) := by have := hb.2.1; omega
          have hcells : j < k → ∃ g, va = some ⟨g, 0, none⟩ ∧ (wr.drewN d).cell? ⟨g, j, none⟩ = some (.int .i64 ((endOf P j : Nat) : Int)) := fun h => by
            obtain ⟨g, rfl⟩ := own_head hown (by omega)
            have hc1 := hown.cellAt j (by omega)
            rw [ends_get P k j h] at hc1
            exact ⟨g, rfl, hc1⟩
          have hF0m : (frs (pl P j)).length ≤ 1368 := by omega
          have HCE := Lib.hid hcells
          have HOUT := Lib.hid hout
          generalize hF0 : (frs (pl P j)).length = F0 at hjm HC HX hF0m
          generalize wr.drewN d = wd at hpre hbl2 HCE
          clear hC hX hb hown hbl hin hout hcells hF0
          have hlj : (pl P j).length = j := pl_len P j
          have HLJ := Lib.hid hlj
          clear hlj
          by_cases hlt2 : j < k
          · obtain ⟨g, rfl, hw1⟩ := HCE.out hlt2
            have hm4 := HOUT.out hlt2
            have hji : (j : Int) < (k : Int) := by omega
            generalize endOf P j = E at hw1 hm4
            have hEi : ¬ (E : Int) ≤ (m : Int) := by omega
            have hEi2 : (m : Int) < (E : Int) := by omega
            clear hm4
            go_wp2_with fail
            refine (split_any _ _ _ _ _ hpre (by omega)).mono ?_
            rintro e w4 ⟨ps2, q2, xs2, v2, rfl, hown4, _, hspl2, hb4⟩
            obtain ⟨e1, e2⟩ := spl_unique hspl2 HC.out
            have e3 : q2 = F0 := by omega
            subst e3
            have hown5 : w4.ownsRow wd.heap.size 22 1 v2 j xs2 := by rw [e1, pl_len] at hown4; exact hown4
            obtain ⟨va2, vc2, rfl⟩ := own_val hown5
            have hpre2 := hpre.below hb4
            have hbl4 : Below w.heap.size w w4 := hbl2.trans (hb4.mono hbl2.size)
            clear e1 e2 hown4 hown5 hspl2 hb4 hpre hbl2
            go_wp2_with fail
            refine (next_ok _ _ _ (q2 : Int) _ _ hpre2 (by omega) (by omega) (by omega)).mono ?_
            rintro e w5 ⟨a5, c5, rfl, _, hb5⟩
            rw [HX.out]
            have hbl5 : Below w.heap.size w w5 := hbl4.trans (hb5.mono hbl4.size)
            clear hb5 hbl4 hpre2
            go_wp2_with fail
            refine (awake_any _).mono ?_
            rintro e w6 ⟨rfl, hb6⟩
            have hbl6 : Below w.heap.size w w6 := hbl5.trans (hb6.mono hbl5.size)
            clear hb6 hbl5
            go_wp2
            go_ret
            exact ⟨rfl, hbl6⟩
          · have hji : (k : Int) ≤ (j : Int) := by omega
            go_wp2_with fail
            refine (split_any _ _ _ _ _ hpre (by omega)).mono ?_
            rintro e w4 ⟨ps2, q2, xs2, v2, rfl, hown4, _, hspl2, hb4⟩
            obtain ⟨e1, e2⟩ := spl_unique hspl2 HC.out
            have e3 : q2 = F0 := by omega
            subst e3
            have hown5 : w4.ownsRow wd.heap.size 22 1 v2 j xs2 := by rw [e1, pl_len] at hown4; exact hown4
            obtain ⟨va2, vc2, rfl⟩ := own_val hown5
            have hpre2 := hpre.below hb4
            have hbl4 : Below w.heap.size w w4 := hbl2.trans (hb4.mono hbl2.size)
            clear e1 e2 hown4 hown5 hspl2 hb4 hpre hbl2
            go_wp2_with fail
            refine (next_ok _ _ _ (q2 : Int) _ _ hpre2 (by omega) (by omega) (by omega)).mono ?_
            rintro e w5 ⟨a5, c5, rfl, _, hb5⟩
            rw [HX.out]
            have hbl5 : Below w.heap.size w w5 := hbl4.trans (hb5.mono hbl4.size)
            clear hb5 hbl4 hpre2
            go_wp2_with fail
            refine (awake_any _).mono ?_
            rintro e w6 ⟨rfl, hb6⟩
            have hbl6 : Below w.heap.size w w6 := hbl5.trans (hb6.mono hbl5.size)
            clear hb6 hbl5
            go_wp2
            go_ret
            exact ⟨rfl, hbl6⟩

theorem torn_many (a : Option Addr) (n cap : Nat) (cut : Int) (w : World) (hm : cap ≤ maxLen) (hnc : n ≤ cap) (hn : 12 < n) :
    Calls Try.prog 11 #[.slice a n cap, .int .i64 cut] w fun e w' => e = .returned (.bool true) ∧ Below w.heap.size w w' := by
  unfold maxLen at hm
  have hni : (12 : Int) < (n : Int) := by omega
  go_enter Try.func11, Try.ntmps11
  go_wp2_with fail
  refine (awake_any _).mono ?_
  rintro e w1 ⟨rfl, hb⟩
  go_wp2
  go_ret
  exact ⟨rfl, hb⟩
end Go.Proofs.Ytdaenfhedepiaaa
