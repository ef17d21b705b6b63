/- The walk of HandlesForged. -/
import Derived.Test.YtnikbnbmbifcjaaLawHandDistinct
set_option linter.unusedVariables false
namespace Go.Proofs.Ytnikbnbmbifcjaa
open Go.RowKit

theorem hds_len (σ : St) : σ.hds.length = σ.opened.length := by simp [St.hds]
theorem take_mem {l : List Int} {j : Nat} (h : j < l.length) (y : Int) : y ∈ l.take (j + 1) ↔ y ∈ l.take j ∨ l.getD j 0 = y := by
  rw [List.take_succ_eq_append_getElem h, List.mem_append, List.getD_eq_getElem?_getD, List.getElem?_eq_getElem h]
  simp [eq_comm]
/-- a number is accepted exactly if it is among the handles -/
def LookPost (w : World) (σ : St) (n : Int) (e : Ending) (w' : World) : Prop :=
  ∃ u x : Int, e = .returned (.tuple #[.int .u32 u, .int .i64 x]) ∧ Below w.heap.size w w' ∧ ((n ∈ σ.hds ∧ x = 0) ∨ (n ∉ σ.hds ∧ x = 5))
theorem look_any {I : HImpl} {B : Nat} {w w0 : World} {p x : Value} {σ : St} {v : Nat → Int} {l : List Int} (h : TI I B w0 w p σ v x l) {n : Int} (h0 : 0 ≤ n) (h1 : n < 18446744073709551616) :
    Calls Try.prog 15 #[p, .int .u64 n] w (LookPost w σ n) := by
  refine (ti_lookup h h0 h1).mono ?_
  rintro e w1 ⟨rfl, hb⟩
  have hi := ent_iff h.ok h0
  by_cases he : σ.ent n = 0
  · rw [if_pos he]
    exact ⟨_, _, rfl, hb, .inr ⟨fun hm => hi.2 hm he, rfl⟩⟩
  · rw [if_neg he]
    exact ⟨_, _, rfl, hb, .inl ⟨hi.1 he, rfl⟩⟩
set_option maxHeartbeats 2000000 in
set_option maxRecDepth 100000 in
theorem forged_walk (I : HImpl) (c hx : Int) (a : Option Addr) (m cap : Nat) (w : World) (h1 : -9223372036854775808 ≤ c) (h2 : c ≤ 9223372036854775807) (hx0 : 0 ≤ hx) (hx1 : hx < 18446744073709551616) (hl : CallsIn w a m) (hmc : m ≤ cap) (hm : cap ≤ maxLen) :
    Calls Try.prog 6 #[.int .i64 c, .slice a m cap, .int .u64 hx] w fun e w' => e = .returned (.bool true) ∧ Below w.heap.size w w' := by
  obtain ⟨i0, ji, jz0, jz1, jz2⟩ := info_parts u64sInfo
  have hr := Int.emod_nonneg c (b := 10) (by omega)
  have hr2 := Int.emod_lt_of_pos c (b := 10) (by omega)
  obtain ⟨r, hr3⟩ := Int.eq_ofNat_of_zero_le hr
  rw [hr3] at hr2
  have hr4 : r < 10 := by omega
  have HR := Lib.hid hr3
  obtain ⟨n, hn⟩ : ∃ n : Nat, n = r + 1 := ⟨_, rfl⟩
  have HN : Hid ((1 : Int) + (r : Int) = (n : Int)) := by have := hn; show (1 : Int) + (r : Int) = (n : Int); omega
  have hn1 : 1 ≤ n := by omega
  have hn2 : n ≤ 10 := by omega
  clear hr hr2 hr3 hn
  go_enter Try.func6, Try.ntmps6
  go_wp2_with fail
  refine (mod_any c 10 _ h1 h2 (by decide) (by decide)).mono ?_
  rintro e w2 ⟨rfl, rfl⟩
  rw [HR.out]
  go_wp2_with fail
  rw [HN.out]
  refine (play_any I a n m cap _ hl hmc hm hn1 (by omega)).mono ?_
  rintro e w1 ⟨pa, xa, xc, N, σ, v, l, rfl, h, hcap, hiss, hN, hlen⟩
  have HW := Lib.hid (issued_words hiss h.ok)
  clear hl hiss
  go_wp2_with fail
  refine (awake_any I _).mono ?_
  rintro e w2 ⟨rfl, hb2⟩
  have h2 := h.calm hb2
  have hok := h2.ok
  have hol := opened_len hok
  have hdl := hds_len σ
  have hol2 : σ.hds.length ≤ 10 := by omega
  clear h hb2 hol hdl hcap
  go_wp2_with fail
  refine (ti_handles h2).mono ?_
  rintro e w3 ⟨oa, oc, rfl, ho, hb3⟩
  have h3 := h2.calm hb3
  have hsz := h3.hB
  clear h2 hb3
  obtain ⟨q, hq⟩ : ∃ q, hx % 34359738368 = q := ⟨_, rfl⟩
  have hq0 : 0 ≤ q := by omega
  have hq1 : q < 18446744073709551616 := by omega
  have hal := (Below.refl w3.heap.size w3).alloc (Nat.le_refl _) (Obj.cells #[Value.int .u64 hx, .int .u64 0, .int .u64 q] 29)
  have h4 := h3.calm hal
  have HO := Lib.hid ho
  have H3 := Lib.hid h3
  have hlit : (w3.alloc (Obj.cells #[Value.int .u64 hx, .int .u64 0, .int .u64 q] 29)).ownsRow w3.heap.size 29 1 (.slice (some ⟨w3.heap.size, 0, none⟩) 3 3) 3 (u64s [hx, 0, q]) := World.ownsRow_lit w3 #[Value.int .u64 hx, .int .u64 0, .int .u64 q] 3 (Nat.le_refl _) (by unfold maxLen; omega) rfl
  have hrow := h4.row
  have hli : (l.length : Int) ≤ 150 := by omega
  have HOK := Lib.hid hok
  have hsz4 : w3.heap.size ≤ (w3.alloc (Obj.cells #[Value.int .u64 hx, .int .u64 0, .int .u64 q] 29)).heap.size := by simp
  clear h3 ho h4 hok
  go_wp2_with (at_builtin; refine wpList_append_row rfl (.tmp 35) (.tmp 36) 42 rfl w3.heap.size 29 i0 (.int .u64 0) 8 Try.underlying42 ji jz0 jz1 jz2 rfl (.slice (some ⟨w3.heap.size, 0, none⟩) 3 3) 3 (u64s [hx, 0, q]) rfl hlit w.heap.size xa l.length xc (u64s l) rfl hrow (u64s_one _) (by unfold maxLen; omega) (by omega) hsz4 ?_; intro v5 w5 ho5 hg5)
  have hb5 : Below w3.heap.size w3 w5 := hal.grown hg5 hsz4 (fun k hk => by simp [Value.ownBlock] at hk; omega)
  have h5 := H3.out.calm hb5
  have HO5 := Lib.hid (row_below HO.out hb5)
  obtain ⟨T, hT⟩ : ∃ T, T = [hx, 0, q] ++ l := ⟨_, rfl⟩
  have hTl : T.length = 3 + l.length := by rw [hT]; simp; omega
  have hTW : Words T := by
    intro y hy
    rw [hT] at hy
    simp only [List.cons_append, List.nil_append, List.mem_cons] at hy
    rcases hy with rfl | rfl | rfl | hy
    · exact ⟨hx0, hx1⟩
    · decide
    · exact ⟨hq0, hq1⟩
    · exact HW.out y hy
  rw [show u64s [hx, 0, q] ++ u64s l = u64s T by rw [hT]; simp [u64s], ← hTl] at ho5
  have HT5 := Lib.hid ho5
  have HTW := Lib.hid hTW
  have hTi : (T.length : Int) ≤ 153 := by omega
  have hol3 : (σ.hds.length : Int) ≤ 10 := by omega
  obtain ⟨ta, tc, rfl⟩ := row_val ho5
  clear hal hlit hrow hg5 hb5 hT hTl hTW hq hsz4 HO H3 ho5
  generalize hD : σ.hds = D at hol2 hol3
  have HD := Lib.hid hD
  rw [hD] at HO5
  go_loopw [11] (fun i wr => ∃ k : Nat, k ≤ T.length ∧ i = .int .i64 (k : Int) ∧ Below w5.heap.size w5 wr) (fun i _ => T.length - (intOf i).toNat)
  case atStart => exact ⟨0, Nat.zero_le _, rfl, Below.refl _ _⟩
  case round =>
    obtain ⟨k, hk, rfl, hbr⟩ := hrel
    by_cases hlt : k < T.length
    · have hki : (k : Int) < (T.length : Int) := by omega
      have hrowT := row_below HT5.out hbr
      have hrowO := row_below HO5.out hbr
      have h6 := h5.calm hbr
      obtain ⟨g, rfl, hg, hck⟩ := row_cell hrowT hlt
      have hc1 : wr.cell? ⟨g, k, none⟩ = some (.int .u64 (T.getD k 0)) := hck.trans (u64s_get hlt)
      have hY := HTW.out _ (getD_mem hlt)
      generalize T.getD k 0 = Y at hc1 hY
      obtain ⟨hY0, hY1⟩ := hY
      have HRO := Lib.hid hrowO
      have HC1 := Lib.hid hc1
      clear hck hrowT hrowO hc1 hD
      go_wp2
      go_loopw [12, 13] (fun b i w' => ∃ (j d : Nat), j ≤ D.length ∧ b = .bool (decide (Y ∈ D.take j)) ∧ i = .int .i64 (j : Int) ∧ w' = wr.drewN d) (fun _ i _ => D.length - (intOf i).toNat)
      case atStart => exact ⟨0, 0, Nat.zero_le _, by simp, rfl, rfl⟩
      case round =>
        obtain ⟨j, d, hj, rfl, rfl, rfl⟩ := hrel
        by_cases hltj : j < D.length
        · have hji : (j : Int) < (D.length : Int) := by omega
          have hstep := take_mem hltj Y
          obtain ⟨g2, rfl, hg2, hcj⟩ := row_cell HRO.out hltj
          have hc2 : (wr.drewN d).cell? ⟨g2, j, none⟩ = some (.int .u64 (D.getD j 0)) := hcj.trans (u64s_get hltj)
          have hc1 : (wr.drewN d).cell? ⟨g, k, none⟩ = some (.int .u64 Y) := HC1.out
          generalize D.getD j 0 = X at hc2 hstep
          generalize hW : wr.drewN d = wd at hc1 hc2
          have HWD := Lib.hid hW
          clear hcj hW
          by_cases hin : Y ∈ D.take j
          · have hd : decide (Y ∈ D.take j) = true := decide_eq_true hin
            have hd2 : decide (Y ∈ D.take (j + 1)) = true := decide_eq_true (hstep.2 (.inl hin))
            have HD2 := Lib.hid hd2
            rw [hd]
            clear hstep hin hd hd2 hc1 hc2
            go_wp2
            go_quiet (fail)
            go_wp2
            exact ⟨⟨j + 1, d + nq, by omega, by rw [HD2.out], by go_num, by rw [← HWD.out, World.drewN_drewN]⟩, by simp [intOf]; omega⟩
          · have hd : decide (Y ∈ D.take j) = false := decide_eq_false hin
            have hd2 : decide (Y ∈ D.take (j + 1)) = (X == Y) := by
              rw [Bool.eq_iff_iff]
              simp only [decide_eq_true_eq, hstep, beq_iff_eq]
              exact ⟨fun h => h.resolve_left hin, .inr⟩
            have HD2 := Lib.hid hd2
            rw [hd]
            clear hstep hin hd hd2
            go_wp2
            go_quiet (fail)
            go_wp2
            exact ⟨⟨j + 1, d + nq, by omega, by rw [HD2.out], by go_num, by rw [← HWD.out, World.drewN_drewN]⟩, by simp [intOf]; omega⟩
        · obtain rfl : j = D.length := by omega
          have hc1 : (wr.drewN d).cell? ⟨g, k, none⟩ = some (.int .u64 Y) := HC1.out
          have h7 := h6.calm (below_drewN (Below.refl _ _) d)
          have hbd : Below w5.heap.size w5 (wr.drewN d) := below_drewN hbr d
          generalize wr.drewN d = wd at hc1 h7 hbd
          rw [List.take_length]
          go_wp2_with fail
          refine (look_any h7 hY0 hY1).mono ?_
          rintro e w8 ⟨u, x, rfl, hb8, hcase⟩
          rw [HD.out] at hcase
          have hb9 := hbd.trans (hb8.mono hbd.size)
          clear h7 hbd hb8 hc1
          rcases hcase with ⟨hm, rfl⟩ | ⟨hm, rfl⟩
          · rw [decide_eq_true hm]
            go_wp2
            exact ⟨⟨k + 1, by omega, by go_num, hb9⟩, by simp [intOf]; omega⟩
          · rw [decide_eq_false hm]
            go_wp2
            exact ⟨⟨k + 1, by omega, by go_num, hb9⟩, by simp [intOf]; omega⟩
    · obtain rfl : k = T.length := by omega
      go_wp2
      go_ret
      exact ⟨rfl, h5.below.trans (hbr.mono h5.hB)⟩
end Go.Proofs.Ytnikbnbmbifcjaa
