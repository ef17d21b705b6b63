/- The walk of SlotsAreReusedFirst. -/
import Derived.Test.YtfemdclfplgbfaaSlotsG
set_option linter.unusedVariables false
namespace Go.Proofs.Ytfemdclfplgbfaa
open Go.RowKit

def ReuseRel (I : Impl) (B : Nat) (w0 w1 : World) (p : Value) (l : List Nat) (o : Value) (i : Value) (wr : World) : Prop :=
  ∃ (k : Nat) (σ : St), k ≤ l.length ∧ i = .int .i64 (k : Int) ∧ HasG I B wr p σ (fun b => o.ownBlock = some b) ∧ σ.free = l.drop k ∧ wr.ownsRow w1.heap.size 31 1 o l.length (u32s l) ∧ Below B w0 wr
theorem mod_slot (u n : Nat) (h1 : 1 ≤ n) (h2 : n ≤ 30) (hu : u < 4294967296) : ∃ i : Nat, (1 : Int) + (u : Int) % (n : Int) = (i : Int) ∧ 1 ≤ i ∧ i ≤ n := by
  refine ⟨1 + u % n, by omega, by omega, ?_⟩
  have := Nat.mod_lt u (show 0 < n by omega)
  omega

set_option maxHeartbeats 2000000 in
set_option maxRecDepth 100000 in
theorem reused_walk (I : Impl) (c u : Int) (a : Option Addr) (m cap : Nat) (w : World) (h1 : -9223372036854775808 ≤ c) (h2 : c ≤ 9223372036854775807) (hu1 : 0 ≤ u) (hu2 : u < 4294967296) (hl : CallsIn w a m) (hmc : m ≤ cap) (hm : cap ≤ maxLen) :
    Calls Try.prog 7 #[.int .i64 c, .slice a m cap, .int .u32 u] w fun e w' => e = .returned (.bool true) ∧ Below w.heap.size w w' := by
  have hr := Int.emod_nonneg c (b := 30) (by omega)
  have hr2 := Int.emod_lt_of_pos c (b := 30) (by omega)
  obtain ⟨r, hr3⟩ := Int.eq_ofNat_of_zero_le hr
  rw [hr3] at hr2
  have hr4 : r < 30 := by omega
  have HR := Lib.hid hr3
  obtain ⟨n, hn⟩ : ∃ n : Nat, n = r + 1 := ⟨_, rfl⟩
  have HN : Hid ((1 : Int) + (r : Int) = (n : Int)) := by have := hn; show (1 : Int) + (r : Int) = (n : Int); omega
  have hn1 : 1 ≤ n := by omega
  have hn2 : n ≤ 30 := by omega
  obtain ⟨U, rfl⟩ := Int.eq_ofNat_of_zero_le hu1
  obtain ⟨i, hi, hi1, hi2⟩ := mod_slot U n hn1 hn2 (by omega)
  have HI := Lib.hid hi
  have hnz : ((n : Int) == 0) = false := by simp; omega
  have hni : (n : Int) ≤ 30 := by omega
  have hni2 : (1 : Int) ≤ (n : Int) := by omega
  have hmod1 := Int.emod_nonneg (U : Int) (b := (n : Int)) (by omega)
  have hmod2 := Int.emod_lt_of_pos (U : Int) (b := (n : Int)) (by omega)
  have hmod3 : (U : Int) % (n : Int) < 30 := by omega
  clear hr hr2 hr3 hn hi hmod2
  go_enter Try.func7, Try.ntmps7
  go_wp2_with fail
  refine (mod_any c 30 _ h1 h2 (by decide) (by decide)).mono ?_
  rintro e w2 ⟨rfl, rfl⟩
  rw [HR.out]
  go_wp2_with fail
  rw [HN.out]
  refine (play_any I a n m cap _ hl hmc hm hn1 (by omega)).mono ?_
  rintro e w1 ⟨pa, σ, rfl, h, hcap, hb⟩
  have hok := h.ok
  have HOK := Lib.hid hok
  have HCAP := Lib.hid hcap
  clear hok hcap hl
  go_wp2_with fail
  refine (awake_any I _).mono ?_
  rintro e w2 ⟨rfl, hb2⟩
  have h3 := h.below hb2
  have hbb := hb.trans (hb2.mono hb.size)
  clear h hb hb2
  go_wp2_with fail
  rw [HI.out]
  refine (release_has I h3 (i := i) (by omega) rfl hbb hbb.size).mono ?_
  rintro e w3 ⟨rfl, h4, hb3, hs3⟩
  clear h3 hbb
  by_cases hon : σ.on i = true
  case' pos =>
    rw [if_pos hon] at h4 ⊢
    have hon2 := Lib.hid hon
    clear hon
    go_wp2_with fail
    refine (order_has I h4).mono ?_
    rintro e w4 ⟨oa, oc, rfl, ho, hb4⟩
    have h5 := h4.below hb4
    have hb5 := hb3.trans (hb4.mono hb3.size)
    obtain ⟨g, rfl, hg, hcell⟩ := row_cell (j := 0) ho (by simp [St.put])
    have hc : w4.cell? ⟨g, 0, none⟩ = some (.int .u32 (i : Int)) := hcell
    have hlen : (σ.put i).free.length = σ.free.length + 1 := by simp [St.put]
    have hl2 := h5.ok.len
    have hl3 := h5.ok.cap2
    rw [hlen] at hl2 ⊢
    obtain ⟨L, hL⟩ : ∃ L, L = σ.free.length + 1 := ⟨_, rfl⟩
    rw [← hL] at hl2 ⊢
    have hl4 : (L : Int) ≤ 65536 := by omega
    have hl5 : (1 : Int) ≤ (L : Int) := by omega
    have hl6 : ((L : Int) == 0) = false := by simp; omega
    clear h4 hb3 hb4 hlen hl2 hl3 ho hcell hL
    obtain ⟨wX, hwX⟩ : ∃ wX, wX = w4 := ⟨_, rfl⟩
    obtain ⟨τ, hX⟩ : ∃ τ, Has I w.heap.size wX (.pointer (some pa)) τ := ⟨_, by rw [hwX]; exact h5⟩
    have hbX : Below w.heap.size w wX := by rw [hwX]; exact hb5
    rw [← hwX] at hc ⊢
    clear hwX h5 hb5
    go_wp2_with fail
    refine (order_has I hX).mono ?_
    clear hc
  case' neg =>
    rw [if_neg hon] at h4 ⊢
    obtain ⟨wX, hwX⟩ : ∃ wX, wX = w3 := ⟨_, rfl⟩
    obtain ⟨τ, hX⟩ : ∃ τ, Has I w.heap.size wX (.pointer (some pa)) τ := ⟨_, by rw [hwX]; exact h4⟩
    have hbX : Below w.heap.size w wX := by rw [hwX]; exact hb3
    rw [← hwX] at hs3 ⊢
    clear hwX h4 hb3 hon
    go_wp2_with fail
    refine (order_has I hX).mono ?_
  all_goals
    rintro e w5 ⟨oa, oc, rfl, ho, hb6⟩
    have hg0 : HasG I w.heap.size w5 (.pointer (some pa)) τ (fun b => (Value.slice oa τ.free.length oc).ownBlock = some b) := hX.beside hb6 fun k hk => row_lt ho k hk
    have hb7 := hbX.trans (hb6.mono hbX.size)
    have hl2 := hX.ok.len
    have hl3 := hX.ok.cap2
    obtain ⟨l, hl⟩ : ∃ l, l = τ.free := ⟨_, rfl⟩
    rw [← hl] at ho hg0 hl2 ⊢
    obtain ⟨N, hN⟩ : ∃ N, N = l.length := ⟨_, rfl⟩
    have hN2 : (N : Int) ≤ 65536 := by omega
    have HLE := Lib.hid hl
    have HNE := Lib.hid hN
    rw [← hN]
    clear hX hbX hb6 hl hN hl2 hl3
    go_wp2
    go_loopw [12] (fun i wr => ReuseRel I w.heap.size w wX (.pointer (some pa)) l (.slice oa l.length oc) i wr) (fun i _ => N - (intOf i).toNat)
    case atStart => exact ⟨0, τ, Nat.zero_le _, rfl, hg0, HLE.out.symm, ho, hb7⟩
    case round =>
      clear hg0 hb7 ho
      obtain ⟨k, σ2, hk, rfl, hg, hfr, ho, hbr⟩ := hrel
      have HFR := Lib.hid hfr
      clear hfr
      rw [← HNE.out] at hk
      by_cases hlt : k < N
      · have hkl : k < l.length := by rw [← HNE.out]; exact hlt
        obtain ⟨g, rfl, hgl, hcell⟩ := row_cell ho hkl
        have hcl := hcell.trans (u32s_at hkl)
        have hdc := HFR.out.trans (drop_cons hkl)
        have HO := Lib.hid ho
        have HNl : Hid (l.length = N) := Lib.hid HNE.out.symm
        have hki : (k : Int) < (N : Int) := by omega
        generalize l.getD k 0 = X at hcl hdc
        clear hcell ho
        go_wp2_with fail
        refine (take_g hg hdc hbr hbr.size).mono ?_
        rintro e w6 ⟨rfl, hg2, hbr2, hkeep⟩
        have hc2 : w6.cell? ⟨g, k, none⟩ = some (.int .u32 (X : Int)) := (World.cell?_of_block (w := wr) (a := ⟨g, k, none⟩) (hkeep g rfl)).trans hcl
        have ho2 := row_keep HO.out hkeep
        clear hg hbr hcl hkeep hdc
        go_wp2
        exact ⟨⟨k + 1, _, by rw [HNl.out]; omega, by go_num, hg2, rfl, ho2, hbr2⟩, by simp [intOf]; omega⟩
      · obtain rfl : k = N := by omega
        have hnil : σ2.free = [] := by rw [HFR.out, HNE.out, List.drop_length]
        have hki : (k : Int) ≤ (k : Int) := by omega
        clear ho
        go_wp2_with fail
        refine (full_g hg hnil hbr hbr.size).mono ?_
        rintro e w6 ⟨rfl, hg2, hbr2, _⟩
        have hh := hg2.has
        clear hg hg2 hbr
        go_wp2_with fail
        refine (count_has I hh).mono ?_
        rintro e w7 ⟨rfl, hb8⟩
        rw [hnil]
        have hh2 := hh.below hb8
        have hb9 := hbr2.trans (hb8.mono hbr2.size)
        have HNIL := Lib.hid hnil
        clear hh hb8 hbr2 hnil
        go_wp2_with fail
        refine (order_has I hh2).mono ?_
        rintro e w8 ⟨oa2, oc2, rfl, _, hb10⟩
        rw [HNIL.out]
        have hb11 := hb9.trans (hb10.mono hb9.size)
        go_wp2
        go_ret
        exact ⟨rfl, hb11⟩
end Go.Proofs.Ytfemdclfplgbfaa
